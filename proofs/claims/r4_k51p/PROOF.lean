import PyProof.Rows.All
import Wide.All
import OpenK.AllK
import Wide.FinOn
import Lean
import PyProof.EqAt
import PyProof.EqKinds
import PyProof.TupleCall
import PySem.Challenge.RW_rimsteps_k51_by_an_eighth
set_option Elab.async false
set_option linter.all false
set_option maxRecDepth 100000
open List renaming getElem?_eq_getElem → Aa,getElem?_eq_some_iff → Ac,replicate → Ae,length_append → Af,mem_singleton → Ah,mem_append → Aj,mem_append_right → Ak,length_map → Am,size_toArray → Ap,getElem?_append_left → Ar,mem_of_getElem? → As,mem_cons → Av,set_cons_succ → Ax,set_cons_zero → Ay,mem_cons_of_mem → Az,getD_eq_getElem?_getD → AB,append_assoc → AC,mem_cons_self → AE,append_nil → AH,getElem?_map → AI,getElem?_append_right → AJ,length_replicate → AK,take_length → AL,getElem_of_mem → AR,length_cons → AS,pairwise_append → AV,length_take → AX,getElem_mem → A3,take_of_length_le → Ba,map_append → Bc,mem_append_left → Bg,length_drop → Bh,lookup_cons → Bk,mem_map → Bp,mem_of_mem_drop → BA,mem_of_mem_take → BB,take_append_of_le_length → BC,range → BD,filter_cons → BG,take_append_drop → BJ,length_singleton → BR,filterMap_append → BS,take_sublist → BV,replicate_succ → BY,length_pos_iff → B3,nodup_cons → B4,length_nil → B6,nil_append → B7,extract_eq_take_drop → B9,map_cons → Cc,flatten_cons → Ch,drop_sublist → Ci,take_zero → Cv,perm_append_comm → Cy,length_filter_le → Cz,pairwise_iff_getElem → CB,getElem?_cons_succ → CQ,take_append → CS,drop_of_length_le → CZ,getElem?_drop → C0,filter_append → C1,find?_cons → C4,any_cons → C8,nodup_append → Dc,not_mem_nil → Dk,flatten_append → Dm,take_replicate → Do,zip_cons_cons → DC,pairwise_cons → DE,length_eq_zero_iff → DI
open PySem renaming Shared → Ab,wpAny_bind → Ad,wpAny_pure → An,wpAny → Au,model → AA,Program → AF,mainGlobals → AN,Around → AQ,World → A4,starEach → Bl,Spec → Bs,compareOp → Bu,FuncData → Bv,wpAny_holding → By,foldedSetIterable → Bz,wpAny_truthy_bool → BL,wpAny_newObj_type → BM,wpAny_mono → BQ,wpAny_loadPart' → Cj,mem_of_lookup → Ck,keywordEach → Co,sysModules → Cq,wpAny_Call_Name_kw → Cs,wpAny_passesOwn → CC,binaryOp → CD,codeAny → CF,wpAny_standAt → CK,wpAny_comprehension_free → CN,wpAny_rule → CO,compEnvC → CP,bindArgs → De,wpAny_tryCatch → Dh,behindInMarks → Dq,backToKw → Dr,holding → Dt,letOwnedTupleGo → Du,assignEach → Dz,tupleKind_room_in1 → DB,sliceBounds → DH
open PyProof.Rows renaming wpS_bind → Ag,wpS_pure → Ao,arrOf → Aq,SortSt → AM,pendingOf → AO,wpS_forRange → Bo,slot_tuple_getitem → Bw,seqObj → BE,getElem?_mirror_all → BH,wpS_modify → BK,wpS_mono → Ca,IntsAre → Cd,failedOf → Cg,SortKind → Ct,callWith_type1 → Da,get?_update_seq → Dv,wpS_get → Dw
open Nat renaming le_refl → Ai,lt_of_lt_of_le → A6,le_of_lt → A7,lt_or_ge → A8,ne_of_lt → A9,zero_le → Be,le_trans → Bf,mod_lt → Bj,mod_eq_of_lt → Br,lt_of_le_of_lt → Bt,eq_zero_or_pos → BF,add_zero → BU,zero_add → Cf,lt_irrefl → Cn,le_succ → CT,min_eq_left → C6,add_sub_cancel → DF
open PySem.Heap renaming get?_push_of_some → Al,lt_size → AD,get?_push_size → AU,SameBut → CU,get?_update_other → CW
open PySem.Value renaming ref → At,none → Dx,bool → Dy
open Bool renaming false_ne_true → Aw,and_eq_true → Cp,false_eq_true → CY,eq_iff_iff → C3
open Array renaming length_toList → AG,toList_append → Bb,getElem?_toList → Bi,getElem?_eq_some_iff → Bm,getElem?_eq_getElem → BP,size_extract → Cb,toList_push → CH,toList_extract → CI
open PySem.F renaming plainAttrs_list → AT,slot_list_append → AY,type_list_append → AZ,plain_min_loop → BO,args_tuple_add_2 → Ds,entry_tuple_add → DG
open Option.some renaming inj → AW
open PySem.Obj renaming mapSeq → A0
open PySem.PassesOwn renaming never → Bd
open PySem.NameKind renaming free → Bq,cell → C9
open PySem.W renaming mg_none_of → Bx,nsIn → Cw,fnOf → CV,kia_one → C7,keepIn → Dd,kas_item → Di
open False renaming elim → BI
open PySem.PyData renaming keyHash → BN,canLayAll0 → Db,int → Dg
open PySem.Str renaming ofString → BW
open Option renaming map_eq_some_iff → BX,map_some → C5
open PySem.Heap.SameBut renaming update → BZ
open Ne renaming symm → B8
open Lean renaming maxHeartbeats → Ce
open PySem.Builtin.Builtins renaming bindParams → Cm
open True renaming intro → Cr
open Break.runK renaming match_1 → Cu
open PySem.Builtin.Slice renaming slicePlaces → CA,sliceAdjust → Dl
open PySem.SeqAt renaming shaped → CG
open Int renaming toNat_natCast → CJ
open PySem.Builtin.Tuple renaming tupleExact → CL
open PySem.Builtin.List renaming listTooLong → CM
open Sum renaming inl → Dj
open PySem.Paired renaming length → Dp
namespace L2
open PySem PySem.Spec PyProof.Rows
noncomputable abbrev Key:=Sum Int Str
noncomputable def keyIs:Key->Value->Bool
 |.inl k,v=>Value.isInt k v
 |.inr x,v=>Value.isStrOf x v
noncomputable def keyH(w:A4):Key->Int
 |.inl k=>hashInt k
 |.inr x=>hashStr w x
theorem zaW:∀{k:Key}{v:Value},keyIs k v=true->(∃i t,k=Dj i/\v=Value.int i t)∨(∃x t,k=Sum.inr x/\v=Value.str x t)
 |.inl i,v,h=>by
  obtain⟨t,e⟩:=Value.isInt_shape (k:=i) (v:=v) h;exact .inl ⟨i,t,rfl,e⟩
 |.inr x,v,h=>by
  obtain⟨t,e⟩:=Value.isStrOf_shape (x:=x) (v:=v) h;exact .inr ⟨x,t,rfl,e⟩
theorem zjx(i:Int)(t:Tok):keyIs (.inl i) (.int i t)=true:=by simp[keyIs,Value.isInt]
theorem zjw(x:Str)(t:Tok):keyIs (.inr x) (.str x t)=true:=by simp[keyIs,Value.isStrOf]
theorem zmj(a b:Int):decide ((Dj a:Key)=Dj b)=(a == b):=by
 by_cases e:a=b
 .subst e;simp
 .have h:¬ (Dj a:Key)=Dj b:=λq=>e (Sum.inl.inj q)
  rw[decide_eq_false h];exact (beq_eq_false_iff_ne.mpr e).symm
theorem zmg(a b:Str):decide ((Sum.inr a:Key)=Sum.inr b)=decide (a=b):=by
 by_cases e:a=b
 .subst e;simp
 .have h:¬ (Sum.inr a:Key)=Sum.inr b:=λq=>e (Sum.inr.inj q)
  rw[decide_eq_false h,decide_eq_false e]
theorem zmi(a:Int)(b:Str):decide ((Dj a:Key)=Sum.inr b)=false:=decide_eq_false (λq=>nomatch q)
theorem zmh(a:Str)(b:Int):decide ((Sum.inr a:Key)=Dj b)=false:=decide_eq_false (λq=>nomatch q)
noncomputable def zaU(prog:AF)(w:A4):PySem.KeyKind prog w Key where
 is:=keyIs
 hash:=keyH w
 inj:=λv a b ha hb=>by
  rcases zaW ha with⟨i,t,rfl,rfl⟩ |⟨x,t,rfl,rfl⟩
  .rcases zaW hb with⟨j,u,rfl,e⟩ |⟨y,u,rfl,e⟩
   .injection e with e1 _;rw[e1]
   .exact nomatch e
  .rcases zaW hb with⟨j,u,rfl,e⟩ |⟨y,u,rfl,e⟩
   .exact nomatch e
   .injection e with e1 _;rw[e1]
 byValue:=λk v h=>by rcases zaW h with⟨i,t,rfl,rfl⟩ |⟨x,t,rfl,rfl⟩ <;> rfl
 pyHash:=λhv h=>by
  rcases zaW hv with⟨i,t,rfl,rfl⟩ |⟨x,t,rfl,rfl⟩
  .exact wpAny_pyHash_int h
  .exact wpAny_pyHash_str h
 eqBool:=λhu hv h=>by
  rcases zaW hu with⟨i,t,rfl,rfl⟩ |⟨x,t,rfl,rfl⟩
  .rcases zaW hv with⟨j,u,rfl,rfl⟩ |⟨y,u,rfl,rfl⟩
   .rw[zmj]at h;exact wpAny_eqBool_int h
   .rw[zmi]at h;exact SeqAt.EqAt.int_str i t y u _ _ _ _ h
  .rcases zaW hv with⟨j,u,rfl,rfl⟩ |⟨y,u,rfl,rfl⟩
   .rw[zmh]at h;exact SeqAt.EqAt.str_int x t j u _ _ _ _ h
   .rw[zmg]at h;exact wpAny_eqBool_str h
 «strs»:=λk x t v h=>by
  rcases zaW h with⟨i,u,rfl,e⟩ |⟨y,u,rfl,e⟩
  .exact nomatch e
  .injection e with e1 _;subst e1
   cases v <;> rfl
theorem zg7(prog:AF)(w:A4)(i:Int)(t:Tok):(zaU prog w).is (.inl i) (.int i t)=true:=zjx i t
theorem zbL(prog:AF)(w:A4)(x:Str)(t:Tok):(zaU prog w).is (.inr x) (.str x t)=true:=zjw x t
inductive V where
 |non |bl (b:Bool) |int (i:Int) |str (x:Str) |byt (b:Array UInt8) |flt (b:UInt64) |ref (a:Addr) |ty (n:String)
 deriving DecidableEq
noncomputable def RelV:V->Value->Prop
 |.non,u=>u=Dx
 |.bl b,u=>u=Dy b
 |.int i,u=>∃t,u=Value.int i t
 |.str x,u=>∃t,u=Value.str x t
 |.byt b,u=>∃t,u=Value.bytes b t
 |.flt b,u=>∃t,u=Value.float b t
 |.ref a,u=>u=At a
 |.ty n,u=>u=Value.type n
noncomputable abbrev Vals:List V->List Value->Prop:=Paired RelV
theorem Vals.length{xs:List V}{us:List Value}(r:Vals xs us):xs.length=us.length:=Dp r
theorem Vals.get:∀{xs:List V}{us:List Value}{i:Nat}{x:V},Vals xs us->xs[i]?=some x->∃u,us[i]?=some u/\RelV x u
 |_,_,_,_,.nil,e=>by simp at e
 |_,_,0,_,.cons r _,e=>by simp at e;subst e;exact⟨_,rfl,r⟩
 |_,_,i+1,x,.cons _ t,e=>by
  obtain⟨u,h1,h2⟩:=Vals.get (i:=i) (x:=x) t (by simpa using e);exact⟨u,by simpa using h1,h2⟩
theorem Vals.set{x:V}{u:Value}(r:RelV x u):∀{xs:List V}{us:List Value}(i:Nat),Vals xs us->Vals (xs.set i x) (us.set i u)
 |_,_,_,.nil=>.nil
 |_,_,0,.cons _ t=>.cons r t
 |_,_,i+1,.cons q t=>.cons q (Vals.set r i t)
theorem Vals.append:∀{xs ys:List V}{us ws:List Value},Vals xs us->Vals ys ws->Vals (xs++ys) (us++ws)
 |_,_,_,_,.nil,s=>s
 |_,_,_,_,.cons r t,s=>.cons r (Vals.append t s)
theorem Vals.take:∀{xs:List V}{us:List Value}(n:Nat),Vals xs us->Vals (xs.take n) (us.take n)
 |_,_,0,_=>.nil
 |_,_,_+1,.nil=>.nil
 |_,_,n+1,.cons r t=>.cons r (Vals.take n t)
theorem Vals.drop:∀{xs:List V}{us:List Value}(n:Nat),Vals xs us->Vals (xs.drop n) (us.drop n)
 |_,_,0,r=>r
 |_,_,_+1,.nil=>.nil
 |_,_,n+1,.cons _ t=>Vals.drop n t
noncomputable def RelO:Option V->Option Value->Prop
 |some v,some u=>RelV v u
 |none,none=>True
 |_,_=>False
noncomputable def KV{κ:Type}:List (κ×V)->List (κ×Value)->Prop:=Paired λ(p:κ×V) (q:κ×Value)=>p.1=q.1/\RelV p.2 q.2
noncomputable def kV:Key->V
 |.inl i=>.int i
 |.inr x=>.str x
inductive HO where
 /-- a list -/
 |lst (xs:List V)
 /-- a tuple (never changes) -/
 |tup (xs:List V)
 /-- a dict whose keys are ints and texts;one whose keys are tuples of ints and texts (the empty one is both) -/
 |dK (kvs:List (Key×V)) |dT (kvs:List (List Key×V))
 /-- a set of ints: its members,its size -/
 |set (S:Int->Bool) (n:Nat)
 /-- an instance of the class at C,its dict at dx,its attributes -/
 |ins (C dx:Addr) (fs:List (Str×V))
 /-- the dict of the instance at x -/
 |own (x:Addr)
 /-- the dict of an exception -/
 |xd (fs:List (Str×V))
 /-- a bound method,f of x -/
 |met (f x:Addr)
 /-- a range object lo,lo+1,.. below hi -/
 |rng (lo hi:Int)
 /-- a thing that is known to the object (the script;a dict while a loop walks it): read,never written while it is so -/
 |frz (o:Obj) (u:HO)
 /-- a code object's table -/
 |tbl (ps:Array Value)
 /-- any other thing,by what is true of its one object (a def of one's own: SetO a S n:=HO.ext λh=>..) -/
 |ext (φ:Heap->Prop)
noncomputable abbrev Hp:=Addr->Option HO
noncomputable def upd(H:Hp)(a:Addr)(o:HO):Hp:=λb=>if b=a then some o else H b
theorem zaa{H:Hp}{a:Addr}{o:HO}:upd H a o a=some o:=by unfold upd;rw[if_pos rfl]
theorem zam{H:Hp}{a b:Addr}{o:HO}(h:b≠a):upd H a o b=H b:=by unfold upd;rw[if_neg h]
theorem zk8{H:Hp}{a:Addr}{o u:HO}:upd (upd H a o) a u=upd H a u:=by
 funext b;unfold upd;split <;> rfl
theorem ne_of{H:Hp}{a b:Addr}{o u:HO}(h:H a=some o)(h':H b=some u)(d:o≠u):a≠b:=by intro e;subst e;rw[h]at h';exact d (AW h')
theorem zal{H:Hp}{a b:Addr}{o:HO}(h:H a=some o)(h':H b=none):a≠b:=by intro e;subst e;rw[h]at h';cases h'
section
variable (P:AF) (w:A4)
noncomputable def ObjOk(H:Hp)(h:Heap)(a:Addr):HO->Prop
  |.lst xs=>xs.length<=sizeLine/\∃(its:List Value) (n:Nat),Vals xs its/\h.get? a=some { cls:=.type "list",data:=.seq its.toArray n }
  |.tup xs=>xs.length<=sizeLine/\∃its:List Value,Vals xs its/\IsTup h a its.toArray
  |.dK kvs=>kvs.length<=sizeLine/\(a == Cq)=false/\∃vs,KV kvs vs/\h.DictOf (zaU P w) a vs
  |.dT kvs => kvs.length <= sizeLine /\ (a == Cq)=false /\ ∃xs:List (List Key × Addr × Value),
      Paired (λ(p:List Key×V) (q:List Key×Addr×Value)=>p.1=q.1/\H q.2.1=some (.tup (p.1.map kV))/\RelV p.2 q.2.2) kvs xs /\
      ∃o es ep,h.get? a=some o/\o.ExactDict/\o.data=.dict es ep/\es.toList=xs.map (entryOfKey (tupleKind (zaU P w)))/\(xs.map (·.1)).Nodup
  |.set S n=>h.SetOf (intKind P w) a S n
  |.ins C dx fs => H dx=some (.own a) /\ fs.length <= 1000 /\ dx ≠ a /\ h.get? a=some (W.instObj C dx) /\
      ∃mA,h.Ns1 dx mA/\(∀f,RelO (fs.lookup f) (mA f))/\PySem.Within mA (fs.map (·.1))
  |.own _=>∃o,h.get? a=some o
  |.xd fs=>∃mA,h.Ns1 a mA/\∀f,RelO (fs.lookup f) (mA f)
  |.rng lo hi=>∃t u v,h.get? a=some { cls:=.type "range",data:=.fields #[.int lo t,.int hi u,.int 1 v] }
  |.frz o u=>h.get? a=some o/\ObjOk H h a u
  |.tbl ps=>h.get? a=some { cls:=.none,data:=.fields ps }
  |.met f x=>h.get? a=some (W.methodObj (.ref f) (.ref x))
  |.ext φ=>φ h/\(∃o,h.get? a=some o)/\∀h1 h2:Heap,φ h1->(∀o,h1.get? a=some o->h2.get? a=some o)->φ h2
noncomputable def HOk(H:Hp)(h:Heap):Prop:=∀a o,H a=some o->ObjOk P w H h a o
end
section
variable {P:AF}{w:A4}{H H':Hp}{h h':Heap}{a:Addr}{o:HO}
theorem ObjOk.lt(x:ObjOk P w H h a o):a<h.objs.size:=by
 cases o with
 |lst xs=>obtain⟨_,_,_,_,e⟩:=x;exact AD e
 |tup xs=>obtain⟨_,_,_,p⟩:=x;exact p.lt
 |dK kvs=>obtain⟨_,_,_,_,o,_,_,e,_⟩:=x;exact AD e
 |dT kvs=>obtain⟨_,_,_,_,o,_,_,e,_⟩:=x;exact AD e
 |set S n=>obtain⟨o,_,_,_,e,_⟩:=x;exact AD e
 |ins C dx fs=>obtain⟨_,_,_,e,_⟩:=x;exact AD e
 |own y=>obtain⟨_,e⟩:=x;exact AD e
 |xd fs=>obtain⟨_,⟨_,_,_,e,_⟩,_⟩:=x;exact AD e
 |rng lo hi=>obtain⟨_,_,_,e⟩:=x;exact AD e
 |frz ob u=>obtain⟨e,_⟩:=x;exact AD e
 |tbl ps=>exact AD (show h.get? a=some _ from x)
 |met f y=>exact AD (show h.get? a=some _ from x)
 |ext φ=>obtain⟨_,⟨_,e⟩,_⟩:=x;exact AD e
theorem Paired.mapP{α β:Type}{F G:α->β->Prop}:∀{l₁:List α}{l₂:List β},Paired F l₁ l₂->(∀a b,F a b->G a b)->Paired G l₁ l₂
 |_,_,.nil,_=>.nil
 |_,_,.cons r t,f=>.cons (f _ _ r) (Paired.mapP t f)
theorem ObjOk.stay(x:ObjOk P w H h a o)(k:∀b u, (b=a ∨ H b=some (.own a)) -> h.get? b=some u -> h'.get? b=some u)
  (ho:∀b,H b=some (.own a)->H' b=some (.own a)) (ht:∀b xs,H b=some (.tup xs)->H' b=some (.tup xs)):ObjOk P w H' h' a o:=by
 induction o with
 |lst xs=>obtain⟨z,its,n,r,e⟩:=x;exact⟨z,its,n,r,k _ _ (.inl rfl) e⟩
 |tup xs=>obtain⟨z,its,r,ob,e,c⟩:=x;exact⟨z,its,r,ob,k _ _ (.inl rfl) e,c⟩
 |dK kvs=>obtain⟨z,y,vs,r,ob,es,ep,e,c⟩:=x;exact⟨z,y,vs,r,ob,es,ep,k _ _ (.inl rfl) e,c⟩
 |dT kvs =>
  obtain⟨z,y,xs,r,ob,es,ep,e,c⟩:=x;exact⟨z,y,xs,Paired.mapP r λp q z=>⟨z.1,ht _ _ z.2.1,z.2.2⟩,ob,es,ep,k _ _ (.inl rfl) e,c⟩
 |set S n=>obtain⟨ob,es,ep,t,e,c⟩:=x;exact⟨ob,es,ep,t,k _ _ (.inl rfl) e,c⟩
 |ins C dx fs =>
  obtain⟨d,z,ne,e,mA,⟨od,es,ep,e2,c⟩,r⟩:=x;exact⟨ho _ d,z,ne,k _ _ (.inl rfl) e,mA,⟨od,es,ep,k _ _ (.inr d) e2,c⟩,r⟩
 |own y=>obtain⟨ob,e⟩:=x;exact⟨ob,k _ _ (.inl rfl) e⟩
 |xd fs=>obtain⟨mA,⟨od,es,ep,e,c⟩,r⟩:=x;exact⟨mA,⟨od,es,ep,k _ _ (.inl rfl) e,c⟩,r⟩
 |rng lo hi=>obtain⟨t,u,v,e⟩:=x;exact⟨t,u,v,k _ _ (.inl rfl) e⟩
 |frz ob u ih=>obtain⟨e,q⟩:=x;exact⟨k _ _ (.inl rfl) e,ih q⟩
 |tbl ps =>
  have e:h.get? a=some { cls:=.none,data:=.fields ps }:=x;show h'.get? a=some { cls:=.none,data:=.fields ps };exact k a _ (.inl rfl) e
 |met f y =>
  have e:h.get? a=some (W.methodObj (.ref f) (.ref y)):=x;show h'.get? a=some (W.methodObj (.ref f) (.ref y));exact k a _ (.inl rfl) e
 |ext φ=>obtain⟨p,⟨o,e⟩,st⟩:=x;exact⟨st _ _ p λo q=>k _ _ (.inl rfl) q,⟨o,k _ _ (.inl rfl) e⟩,st⟩
theorem HOk.lt(x:HOk P w H h)(e:H a=some o):a<h.objs.size:=(x a o e).lt
theorem HOk.fresh(x:HOk P w H h)(e:h.objs.size<=a):H a=none:=by
 cases q:H a with
 |none=>rfl
 |some u=>exact absurd (A6 (x.lt q) e) (Cn _)
theorem HOk.kept(x:HOk P w H h)(k:∀b u,h.get? b=some u->h'.get? b=some u):HOk P w H h':=λa o e =>
 (x a o e).stay (λb u _ q=>k b u q) (λ_ q=>q) λ_ _ q=>q
theorem HOk.laid(x:HOk P w H h)(k:∀b u,h.get? b=some u->h'.get? b=some u)(hp:h.objs.size<=a)(new:ObjOk P w (upd H a o) h' a o):HOk P w (upd H a o) h':=λb u e=>by
 have hn:=x.fresh hp
 by_cases hb:b=a
 .subst hb;rw[zaa]at e;cases e;exact new
 .rw[zam hb]at e;exact (x b u e).stay (λc v _ q=>k c v q) (λc q=>by rw[zam (zal q hn)];exact q) λc xs q=>by rw[zam (zal q hn)];exact q
end
noncomputable def Rd(H:Hp)(a:Addr)(u:HO):Prop:=H a=some u∨∃o,H a=some (.frz o u)
theorem Rd.of{H:Hp}{a:Addr}{u:HO}(h:H a=some u):Rd H a u:=.inl h
theorem Rd.ok{P:AF}{w:A4}{H:Hp}{h:Heap}{a:Addr}{u:HO}(r:Rd H a u)(x:HOk P w H h):ObjOk P w H h a u:=by
 rcases r with r |⟨o,r⟩
 .exact x a u r
 .obtain⟨_,q⟩:=x a _ r;exact q
noncomputable def Mut:Option HO->Prop
 |some (.lst _)=>True
 |some (.dK _)=>True
 |some (.dT _)=>True
 |some (.set _ _)=>True
 |some (.ins _ _ _)=>True
 |some (.ext _)=>True
 |_=>False
section
variable {P:AF}{w:A4}{H:Hp}{h h':Heap}{x e:Addr}{o':HO}
theorem HOk.write(ok:HOk P w H h)(mu:Mut (H x))(he:e=x ∨ H e=some (.own x))(k:∀b u, b ≠ e -> h.get? b=some u -> h'.get? b=some u)(heo:∃u, h'.get? e=some u)
  (new:ObjOk P w (upd H x o') h' x o'):HOk P w (upd H x o') h':=λb u q=>by
 have nown:∀c y,H c=some (.own y)->c≠x:=λc y r z=>by subst z;rw[r]at mu;exact mu
 have ntup:∀c xs,H c=some (.tup xs)->c≠x:=λc xs r z=>by subst z;rw[r]at mu;exact mu
 by_cases hb:b=x
 .subst hb;rw[zaa]at q;cases q;exact new
 .rw[zam hb]at q
  by_cases hbe:b=e
  .have q':H b=some (.own x) := by
    rcases he with z |z
    .exact absurd (hbe.trans z) hb
    .rw[hbe];exact z
   rw[q]at q';cases q';obtain⟨v,hv⟩:=heo;exact⟨v,by rw[hbe];exact hv⟩
  .refine (ok b u q).stay (λc v hc r=>k c v ?_ r) (λc r=>by rw[zam (nown c b r)];exact r) λc xs r=>by rw[zam (ntup c xs r)];exact r
   rcases hc with rfl |hc
   .exact hbe
   .rintro rfl;rcases he with z |z
    .exact nown c b hc z
    .rw[hc]at z;cases z;exact hb rfl
end
structure Un (fs ex:List Addr) (H H':Hp) (h h':Heap):Prop where
 keep:∀b o,h.get? b=some o->H b=none->b ∉ fs->b ∉ ex->h'.get? b=some o
 slot:∀b o,h.get? b=some o->H b=none->b∈fs->b ∉ ex->∃sl,h'.get? b=some { o with slots:=sl }
 free:∀b o,h.get? b=some o->H b=none->b ∉ ex->H' b=none
 there:∀b o,h.get? b=some o->b ∉ ex->∃o',h'.get? b=some o'
 tups:∀b xs,H b=some (.tup xs)->H' b=some (.tup xs)
 frzs:∀b o u,H b=some (.frz o u)->H' b=some (.frz o u)
 tbls:∀b ps,H b=some (.tbl ps)->∃more,H' b=some (.tbl (ps++more))
section
variable {fs fs' ex ex':List Addr}{H H1 H2:Hp}{h h1 h2 h':Heap}{a x e:Addr}{o:HO}
theorem Un.any(u:Un fs ex H H1 h h1){b:Addr}{ob:Obj}(q:h.get? b=some ob)(n:H b=none)(hx:b ∉ ex):∃sl,h1.get? b=some { ob with slots:=sl }:=by
 by_cases hb:b∈fs
 .exact u.slot b ob q n hb hx
 .exact⟨ob.slots,u.keep b ob q n hb hx⟩
theorem Un.kept(k:∀b u,h.get? b=some u->h'.get? b=some u):Un fs ex H H h h' :=
 ⟨λb ob q _ _ _=>k b ob q,λb ob q _ _ _=>⟨ob.slots,k b ob q⟩,λ_ _ _ n _=>n,λb ob q _=>⟨ob,k b ob q⟩,λ_ _ q=>q,λ_ _ _ q=>q,λ_ ps q=>⟨#[],by rw[q];simp⟩⟩
theorem Un.refl:Un fs ex H H h h:=Un.kept λ_ _ q=>q
theorem Un.laid(k:∀b u,h.get? b=some u->h'.get? b=some u)(hp:h.objs.size<=a)(hn:H a=none):Un fs ex H (upd H a o) h h' where
 keep:=λb u q _ _ _=>k b u q
 slot:=λb u q _ _ _=>⟨u.slots,k b u q⟩
 free:=λb u q n _=>by rw[zam (A9 (A6 (AD q) hp))];exact n
 there:=λb u q _=>⟨u,k b u q⟩
 tups:=λb xs q=>by rw[zam (zal q hn)];exact q
 frzs:=λb u xs q=>by rw[zam (zal q hn)];exact q
 tbls:=λb ps q=>⟨#[],by rw[zam (zal q hn),q];simp⟩
theorem Un.write(mu:Mut (H x))(he:e=x∨H e=some (.own x))(k:∀b u,b≠e->h.get? b=some u->h'.get? b=some u)(heo:∃u,h'.get? e=some u):Un fs ex H (upd H x o) h h':=by
 have hx:∀b,H b=none->b≠x:=λb n z=>by subst z;rw[n]at mu;exact mu
 have hb:∀b,H b=none->b≠e:=λb n z=>by
  subst z;rcases he with r |r
  .exact hx b n r
  .rw[n]at r;cases r
 have hm:∀b u,H b=some u->¬ Mut (some u)->b≠x:=λb u q nm z=>by subst z;rw[q]at mu;exact nm mu
 refine⟨λb u q n _ _=>k b u (hb b n) q,λb u q n _ _=>⟨u.slots,k b u (hb b n) q⟩,λb u q n _=>by rw[zam (hx b n)];exact n,λb u q _=>?_,
  λb xs q=>by rw[zam (hm b _ q λz=>z)];exact q,λb u xs q=>by rw[zam (hm b _ q λz=>z)];exact q,λb ps q=>⟨#[],by rw[zam (hm b _ q λz=>z),q];simp⟩⟩
 by_cases hbe:b=e
 .subst hbe;exact heo
 .exact⟨u,k b u hbe q⟩
end
noncomputable def trk(h:Heap)(H:Hp):List Addr:=(BD h.objs.size).filter λa=>(H a).isSome
noncomputable def hidT(h:Heap)(H:Hp):Heap:=W.hideAll h (trk h H)
theorem zjD(h:Heap)(H:Hp):(hidT h H).objs.size=h.objs.size:=W.hideAll_size _ _
theorem zkn{h:Heap}{H:Hp}{b:Addr}{o:Obj}(e:h.get? b=some o)(n:H b=none):(hidT h H).get? b=some o :=
 W.hideAll_get _ e λhm=>by have q:(H b).isSome=true:=(List.mem_filter.mp hm).2;rw[n]at q;simp at q
theorem zlw{h:Heap}{H:Hp}{b:Addr}{o:Obj}(e:(hidT h H).get? b=some o):h.get? b=some o/\H b=none:=by
 have e':h.get? b=some o:=W.of_hideAll (trk h H) e;refine⟨e',?_⟩
 cases q:H b with
 |none=>rfl
 |some x =>
  have hm:b∈trk h H:=List.mem_filter.mpr ⟨List.mem_range.mpr (AD e'),by simp[q]⟩;have z:(hidT h H).get? b=none:=W.hideAll_none (trk h H) hm;rw[z]at e;cases e
noncomputable def zlL(g h:Heap)(L:Addr):List (Addr×Obj):=(BD h.objs.size).filterMap λa=>if a=L∨(g.get? a).isSome=true then none else (h.get? a).map λo=>(a,o)
noncomputable def rest(g h:Heap)(L d:Addr):List (Addr×Obj):=(zlL g h L).filter λp=>decide (p.1≠d)
structure Mod (K:W.Frag) (mg:Str->Option Value) (base:Heap):Prop where
 kin:K.In base
 glob:base.Ns AN mg
 blt:∃mb,base.Ns builtinsNs mb/\∀x:Str,x ≠ "__name__" -> mb x=bootBuiltins x
 nolimit:base.NoLimit
structure Cx where
 prog:AF
 w:A4
 K:W.Frag
 mg:Str->Option Value
 base:Heap
 A:AQ
 N:List Str
 s₀:Ab
 H₀:Hp
 env:Env
 outer:List Env
 stack:List Env
 ex:List Addr
 fn:Str->Bool
 calm:Bool
 pn:List (Addr×Obj)
 xe:Value->Ab->Prop
noncomputable def frs(l:List Env):List Addr:=l.filterMap (·.frame)
noncomputable abbrev Cx.fs(X:Cx):List Addr:=frs X.outer
noncomputable def Vis(sc:Scope)(x:Str):Prop:=sc.names.lookup x=some .local∨sc.names.lookup x=some .cell∨sc.names.lookup x=some .free
noncomputable def Loc(sc:Scope)(x:Str):Prop:=sc.names.lookup x=some .local∨sc.names.lookup x=some .cell
noncomputable def Look(env:Env)(h:Heap)(m:Str->Option Value)(x:Str)(u:Value):Prop :=
 (env.kindOf x=some .local/\m x=some u)∨((env.kindOf x=some .cell∨env.kindOf x=some .free)/\∃c,env.cells.lookup x=some c/\h.IsCell c (some u))
structure Cx.Ok (X:Cx):Prop where
 mod:Mod X.K X.mg X.base
 kind:X.env.scope.kind=.function
 glob:X.env.globals=AN
 blt:X.env.builtins=builtinsNs
 above:X.s₀.heap.objs.size<=X.env.locals
 inj:∀x y c,X.env.cells.lookup x=some c->X.env.cells.lookup y=some c->x=y
 has:∀x,(X.env.kindOf x=some .cell∨X.env.kindOf x=some .free)->∃c,X.env.cells.lookup x=some c
 cab:∀x c,X.fn x=true->X.env.cells.lookup x=some c->X.s₀.heap.objs.size<=c
 hd:X.calm=true->X.A.handled=none
 frames:X.A.frames=some X.stack
 stk:X.stack=X.outer∨(X.stack=X.env::X.outer/\X.env.frame=some X.env.locals)
 exf:∀b∈X.ex,b≠X.env.locals/\∀x c,X.env.cells.lookup x=some c->c≠b
 bs:∀b o,X.base.get? b=some o->X.s₀.heap.get? b=some o/\X.H₀ b=none
 bsz:X.base.objs.size<=X.s₀.heap.objs.size
 noex:∀b o,X.base.get? b=some o->b ∉ X.ex
 exfs:∀b∈X.ex,b ∉ X.fs
 funs:X.s₀.heap.FunFrames X.base X.outer
 frf:∀b∈X.fs,X.H₀ b=none
structure Inv (X:Cx) (pins:List (Addr×Obj)) (σ:List (Option V)) (H:Hp) (s:Ab):Prop where
 ok:X.Ok
 os:s.os=X.s₀.os
 bare:AllBare s.gens
 base:Un X.fs X.ex X.H₀ H X.s₀.heap s.heap
 loc:∃m,s.heap.Ns X.env.locals m/\∀(i:Nat) (x:Str) (v:V),X.N[i]?=some x->σ[i]?=some (some v)->Vis X.env.scope x->∃u,RelV v u/\Look X.env s.heap m x u
 cell:∀x c,X.env.cells.lookup x=some c->∃v,s.heap.IsCell c v
 free:H X.env.locals=none
 freeC:∀x c,X.env.cells.lookup x=some c->H c=none
 pin:∀p∈X.pn++pins,s.heap.get? p.1=some p.2/\H p.1=none/\p.1≠X.env.locals/\p.1 ∉ X.fs/\∀v,p.2.data≠.cell v
 hok:HOk X.prog X.w H s.heap
 len:σ.length=X.N.length
section
variable {X:Cx}{pins:List (Addr×Obj)}{σ:List (Option V)}{H H':Hp}{s:Ab}{h':Heap}
theorem Cx.Ok.nofr(ok:X.Ok){b:Addr}{o:Obj}(e:X.base.get? b=some o):b ∉ X.fs:=λhb=>by have:=(ok.funs.mem hb).1;rw[e]at this;cases this
theorem Inv.bs(I:Inv X pins σ H s):∀b o,X.base.get? b=some o->s.heap.get? b=some o/\H b=none:=λb o e =>
 ⟨I.base.keep b o (I.ok.bs b o e).1 (I.ok.bs b o e).2 (I.ok.nofr e) (I.ok.noex b o e),I.base.free b o (I.ok.bs b o e).1 (I.ok.bs b o e).2 (I.ok.noex b o e)⟩
theorem Inv.bk(I:Inv X pins σ H s):∀b o,X.base.get? b=some o->s.heap.get? b=some o:=λb o e=>(I.bs b o e).1
theorem Inv.mod(I:Inv X pins σ H s):Mod X.K X.mg X.base:=I.ok.mod
theorem Inv.kIn(I:Inv X pins σ H s):X.K.In s.heap:=I.ok.mod.kin.keeps I.bk
theorem Inv.lt(I:Inv X pins σ H s):X.env.locals<s.heap.objs.size:=let ⟨_,hn,_⟩:=I.loc;hn.lt
theorem Inv.sz(I:Inv X pins σ H s):X.s₀.heap.objs.size<=s.heap.objs.size:=Bf I.ok.above (A7 I.lt)
theorem Inv.nofs(I:Inv X pins σ H s){a:Addr}(h:s.heap.objs.size<=a):a ∉ X.fs:=λhb=>by obtain⟨_,o,ho,_⟩:=I.ok.funs.mem hb;exact absurd (A6 (AD ho) (Bf I.sz h)) (Cn _)
theorem Inv.cne(I:Inv X pins σ H s):∀x c,X.env.cells.lookup x=some c->c≠X.env.locals:=λx c e z=>by obtain⟨v,o,ho,hd⟩:=I.cell x c e;obtain⟨m,⟨o',es,ep,ho',hd',_⟩,_⟩:=I.loc;rw[z,ho']at ho;cases ho;rw[hd']at hd;cases hd
theorem Inv.funs(I:Inv X pins σ H s):s.heap.FunFrames X.base X.outer:=by
 have all:∀(l:List Env),(∀b∈frs l,b∈X.fs)->X.s₀.heap.FunFrames X.base l->s.heap.FunFrames X.base l:=by
  intro l
  induction l with
  |nil=>intro _ _;trivial
  |cons env r ih =>
   intro hs hl;obtain⟨hk,⟨L,o,hf,hn,ho,hd⟩,hr⟩:=hl;have hL:L∈X.fs:=hs L (by unfold frs;rw[List.filterMap_cons,hf];exact AE);obtain⟨sl,e⟩:=I.base.slot L o ho (I.ok.frf L hL) hL λz=>I.ok.exfs L z hL
   exact⟨hk,⟨L,_,hf,hn,e,hd⟩,ih (λb hb=>hs b (by unfold frs;rw[List.filterMap_cons,hf];exact Az _ hb)) hr⟩
 exact all X.outer (λ_ hb=>hb) I.ok.funs
theorem Inv.stack(I:Inv X pins σ H s):s.heap.FunFrames X.base X.stack:=by
 rcases I.ok.stk with e |⟨e,hf⟩
 .rw[e];exact I.funs
 .rw[e];obtain⟨m,hn,_⟩:=I.loc;refine .cons (by rw[I.ok.kind];decide) hf hn ?_ I.funs;exact Heap.get?_none_of_le (Bf I.ok.bsz I.ok.above)
theorem Inv.stkSub(I:Inv X pins σ H s):∀b∈frs X.stack,b∈X.env.locals::X.fs:=λb hb=>by
 rcases I.ok.stk with e |⟨e,hf⟩
 .rw[e]at hb;exact Az _ hb
 .rw[e]at hb;unfold frs at hb;rw[List.filterMap_cons,hf]at hb;exact hb
theorem Inv.stkFree(I:Inv X pins σ H s):∀b∈frs X.stack,H b=none:=λb hb=>by
 rcases Av.mp (I.stkSub b hb) with e |hb
 .rw[e];exact I.free
 .obtain⟨_,o,ho,_⟩:=I.ok.funs.mem hb;exact I.base.free b o ho (I.ok.frf b hb) λz=>I.ok.exfs b z hb
theorem Inv.step{g':Array GenState}{t':Nat}{d':Drawn}{ch:List Addr}(I:Inv X pins σ H s)
  (hch:∀b∈ch,(b∈X.ex∨X.s₀.heap.objs.size<=b)/\b≠X.env.locals/\(∀x c,X.env.cells.lookup x=some c->c≠b)/\∀p∈X.pn++pins,p.1≠b)
  (keep:∀b o,b≠X.env.locals->b ∉ X.fs->b ∉ ch->s.heap.get? b=some o->H b=none->h'.get? b=some o)
  (slot:∀b o,b≠X.env.locals->b∈X.fs->b ∉ ch->s.heap.get? b=some o->H b=none->∃sl,h'.get? b=some { o with slots:=sl }) (free:∀b o,b ∉ ch->s.heap.get? b=some o->H b=none->H' b=none)
  (there:∀b o,b ∉ ch->s.heap.get? b=some o->∃o',h'.get? b=some o')
  (tups:∀b xs,H b=some (.tup xs)->H' b=some (.tup xs)) (frzs:∀b o u,H b=some (.frz o u)->H' b=some (.frz o u)) (tbls:∀b ps,H b=some (.tbl ps)->∃more,H' b=some (.tbl (ps++more)))
  (ns:∀m,s.heap.Ns X.env.locals m->h'.Ns X.env.locals m) (hok:HOk X.prog X.w H' h') (hg:AllBare g') :
  Inv X pins σ H' { s with heap:=h',gens:=g',drawn:=d',toks:=t' }:=by
 have neL:∀b o,X.s₀.heap.get? b=some o->b≠X.env.locals:=λb o e=>A9 (A6 (AD e) I.ok.above)
 have neC:∀b o,X.s₀.heap.get? b=some o->b ∉ X.ex->b ∉ ch:=λb o e hx hb=>by
  rcases (hch b hb).1 with z |z
  .exact hx z
  .exact absurd (A6 (AD e) z) (Cn _)
 have cellK:∀x c,X.env.cells.lookup x=some c->∀v,s.heap.IsCell c v->h'.IsCell c v:=λx c e v ⟨o,ho,hd⟩=>by
  have nch:c ∉ ch:=λz=>(hch c z).2.2.1 x c e rfl
  by_cases hc:c∈X.fs
  .obtain⟨sl,q⟩:=slot c o (I.cne x c e) hc nch ho (I.freeC x c e);exact⟨_,q,hd⟩
  .exact⟨o,keep c o (I.cne x c e) hc nch ho (I.freeC x c e),hd⟩
 refine⟨I.ok,I.os,hg,⟨λb o e n hb hx=>?_,λb o e n hb hx=>?_,λb o e n hx=>?_,λb o e hx=>?_,λb xs e=>tups b xs (I.base.tups b xs e),λb o xs e=>frzs b o xs (I.base.frzs b o xs e),λb ps e=>?_⟩,?_,λx c e=>?_,?_,λx c e=>?_,λp hp=>?_,hok,I.len⟩
 .exact keep b o (neL b o e) hb (neC b o e hx) (I.base.keep b o e n hb hx) (I.base.free b o e n hx)
 .obtain⟨sl,e1⟩:=I.base.slot b o e n hb hx;obtain⟨sl',e2⟩:=slot b _ (neL b o e) hb (neC b o e hx) e1 (I.base.free b o e n hx);exact⟨sl',e2⟩
 .obtain⟨o',e1⟩:=I.base.there b o e hx;exact free b o' (neC b o e hx) e1 (I.base.free b o e n hx)
 .obtain⟨o',e1⟩:=I.base.there b o e hx;exact there b o' (neC b o e hx) e1
 .obtain⟨m1,e1⟩:=I.base.tbls b ps e;obtain⟨m2,e2⟩:=tbls b _ e1;exact⟨m1++m2,by rw[e2,Array.append_assoc]⟩
 .obtain⟨m,hn,hl⟩:=I.loc;refine⟨m,ns m hn,λi x v e1 e2 e3=>?_⟩;obtain⟨u,r,l⟩:=hl i x v e1 e2 e3;refine⟨u,r,?_⟩;rcases l with l |⟨k,c,e,z⟩
  .exact .inl l
  .exact .inr ⟨k,c,e,cellK x c e _ z⟩
 .obtain⟨v,z⟩:=I.cell x c e;exact⟨v,cellK x c e v z⟩
 .obtain⟨m,⟨o,_,_,ho,_⟩,_⟩:=I.loc;exact free _ o (λz=>(hch _ z).2.1 rfl) ho I.free
 .obtain⟨v,o,ho,hd⟩:=I.cell x c e;exact free c o (λz=>(hch c z).2.2.1 x c e rfl) ho (I.freeC x c e)
 .obtain⟨e,n,ne,nf,d⟩:=I.pin p hp;have nch:p.1 ∉ ch:=λz=>(hch p.1 z).2.2.2 p hp rfl
  exact⟨keep p.1 p.2 ne nf nch e n,free p.1 p.2 nch e n,ne,nf,d⟩
theorem Inv.un{t':Nat}(I:Inv X pins σ H s)(u:Un X.fs [] H H' s.heap h')(hok:HOk X.prog X.w H' h'):Inv X pins σ H' { s with heap:=h',toks:=t' }:=by
 obtain⟨m,⟨o,es,ep,ho,r⟩,_⟩:=id I.loc;obtain⟨sl,hL⟩:=u.any ho I.free (by simp)
 exact I.step (g':=s.gens) (d':=s.drawn) (ch:=[]) (λ_ z=>nomatch z) (λb o _ hb _ e n=>u.keep b o e n hb (by simp)) (λb o _ hb _ e n=>u.slot b o e n hb (by simp)) (λb o _ e n=>u.free b o e n (by simp)) (λb o _ e=>u.there b o e (by simp)) u.tups u.frzs u.tbls (λm' hm=>by obtain⟨o',es',ep',ho',r'⟩:=hm;rw[ho]at ho';cases ho';exact⟨_,es',ep',hL,r'⟩) hok I.bare
theorem Inv.call{g':Array GenState}{t':Nat}{d':Drawn}{ch:List Addr}(I:Inv X pins σ H s)(u:Un (frs X.stack) ch H H' s.heap h')(hok:HOk X.prog X.w H' h')(hg:AllBare g')
  (hch:∀b∈ch,(b∈X.ex∨X.s₀.heap.objs.size<=b)/\b≠X.env.locals/\(∀x c,X.env.cells.lookup x=some c->c≠b)/\∀p∈X.pn++pins,p.1≠b) :
  Inv X pins σ H' { s with heap:=h',gens:=g',drawn:=d',toks:=t' }:=by
 obtain⟨m,⟨o,es,ep,ho,r⟩,_⟩:=id I.loc;obtain⟨sl,hL⟩:=u.any ho I.free λz=>(hch _ z).2.1 rfl
 exact I.step (ch:=ch) hch (λb o hL hb hc e n=>u.keep b o e n (λz=>(Av.mp (I.stkSub b z)).elim hL hb) hc) (λb o _ _ hc e n=>u.any e n hc) (λb o hc e n=>u.free b o e n hc) (λb o hc e=>u.there b o e hc) u.tups u.frzs u.tbls (λm' hm=>by obtain⟨o',es',ep',ho',r'⟩:=hm;rw[ho]at ho';cases ho';exact⟨_,es',ep',hL,r'⟩) hok hg
theorem Inv.turned{t':Nat}{it:Addr}(I:Inv X pins σ H s)(k:∀b o, b ≠ it -> s.heap.get? b=some o -> h'.get? b=some o)(hn:H it=none)(hL:it ≠ X.env.locals)
  (h1:it∈X.ex∨X.s₀.heap.objs.size<=it) (h2:∀x c,X.env.cells.lookup x=some c->c≠it) (h3:∀p∈X.pn++pins,p.1≠it):Inv X pins σ H { s with heap:=h',toks:=t' }:=by
 have nit:∀b u,H b=some u->b≠it:=λb u e z=>by rw[z,hn]at e;cases e
 refine I.step (g':=s.gens) (d':=s.drawn) (ch:=[it]) (λb hb=>?_) (λb o _ _ hc e _=>k b o (λz=>hc (by simp[z])) e) (λb o _ _ hc e _=>⟨o.slots,k b o (λz=>hc (by simp[z])) e⟩) (λ_ _ _ _ n=>n)
  (λb o hc e=>⟨o,k b o (λz=>hc (by simp[z])) e⟩) (λ_ _ e=>e) (λ_ _ _ e=>e) (λb ps e=>⟨#[],by rw[e];simp⟩) (λm hm=>?_) (λb u e=>?_) I.bare
 .have e:b=it:=by simpa using hb
  subst e;exact⟨h1,hL,h2,h3⟩
 .obtain⟨o,es,ep,ho,r⟩:=hm;exact⟨o,es,ep,k _ o (B8 hL) ho,r⟩
 .refine (I.hok b u e).stay (λc v hc q=>k c v ?_ q) (λ_ q=>q) λ_ _ q=>q
  rcases hc with z |z
  .rw[z];exact nit b u e
  .exact nit c _ z
theorem Inv.tok(I:Inv X pins σ H s)(t:Nat):Inv X pins σ H { s with toks:=t }:=I.un (h':=s.heap) (t':=t) Un.refl I.hok
theorem Inv.kept{t':Nat}(I:Inv X pins σ H s)(k:∀b u,s.heap.get? b=some u->h'.get? b=some u):Inv X pins σ H { s with heap:=h',toks:=t' }:=I.un (Un.kept k) (I.hok.kept k)
theorem Inv.laid{a:Addr}{o:HO}{t':Nat}(I:Inv X pins σ H s)(k:∀b u, s.heap.get? b=some u -> h'.get? b=some u)(hp:s.heap.objs.size <= a)(new:ObjOk X.prog X.w (upd H a o) h' a o) :
  Inv X pins σ (upd H a o) { s with heap:=h',toks:=t' }:=I.un (Un.laid k hp (I.hok.fresh hp)) (I.hok.laid k hp new)
theorem Inv.write{x e:Addr}{o:HO}{t':Nat}(I:Inv X pins σ H s)(mu:Mut (H x))(he:e=x ∨ H e=some (.own x))(k:∀b u, b ≠ e -> s.heap.get? b=some u -> h'.get? b=some u)(heo:∃u, h'.get? e=some u)
  (new:ObjOk X.prog X.w (upd H x o) h' x o):Inv X pins σ (upd H x o) { s with heap:=h',toks:=t' }:=I.un (Un.write mu he k heo) (I.hok.write mu he k heo new)
theorem Inv.pins_of{pins':List (Addr×Obj)}(I:Inv X pins σ H s)(h:∀p∈pins',s.heap.get? p.1=some p.2/\H p.1=none/\p.1≠X.env.locals/\p.1 ∉ X.fs/\∀v,p.2.data≠.cell v):Inv X pins' σ H s :=
 ⟨I.ok,I.os,I.bare,I.base,I.loc,I.cell,I.free,I.freeC,λp hp=>(Aj.mp hp).elim (λz=>I.pin p (Bg _ z)) (h p),I.hok,I.len⟩
theorem zhI{N:List Str}(hN:N.Nodup){i j:Nat}{x:Str}(a:N[i]?=some x)(b:N[j]?=some x):i=j:=by obtain⟨h1,e1⟩:=Ac.mp a;obtain⟨h2,e2⟩:=Ac.mp b;exact (List.getElem_inj hN).mp (e1.trans e2.symm)
theorem zdI{M:Model}{A:AQ}{E:Value -> Ab -> Prop}{i:Nat}{x:Str}{v:V}{u:Value}{Q:Unit -> Ab -> Prop}(I:Inv X pins σ H s)(hN:X.N.Nodup)(hi:X.N[i]? = some x)(hx:Loc X.env.scope x)(r:RelV v u)
  (h:∀s',Inv X pins (σ.set i (some v)) H s'->(∃a,CU a s.heap s'.heap/\(a=X.env.locals∨X.env.cells.lookup x=some a))->Q () s') (hf:X.fn x=true∨X.env.scope.names.lookup x=some .local:=by first |exact .inl rfl |exact .inr rfl |assumption):Au M A (storeName X.env x u) Q E s:=by
 obtain⟨m,hn,hl⟩:=id I.loc;have hcls:(X.env.scope.kind == .class || (X.env.scope.kind == .module && X.env.locals != X.env.globals))=false:=by rw[I.ok.kind];rfl
 have hiσ:i<σ.length:=by rw[I.len];exact (Ac.mp hi).1
 have cne:=I.cne
 have tracked:∀{a:Addr} {h':Heap},(∃o,s.heap.get? a=some o/\H a=none)->CU a s.heap h'->HOk X.prog X.w H h':=λ{a h'} ha hs b ob e=>by
  obtain⟨_,_,hfree⟩:=ha;refine (I.hok b ob e).stay (λc w' hc q=>(hs.2 c ?_).trans q) (λ_ q=>q) λ_ _ q=>q
  rintro rfl;rcases hc with rfl |hc
  .rw[hfree]at e;cases e
  .rw[hfree]at hc;cases hc
 rcases hx with hk |hk
 .refine wpAny_storeName_local hk hn (λh' hn' hs=>?_) hcls;obtain⟨oL,_,_,hoL,_⟩:=id hn;refine h _ ⟨I.ok,I.os,I.bare,⟨λb o e n hb hx=>?_,λb o e n hb hx=>?_,I.base.free,λb o e hx=>?_,I.base.tups,I.base.frzs,I.base.tbls⟩,⟨_,hn',λj y v' e1 e2 e3=>?_⟩,λy c e=>?_,I.free,I.freeC,λp hp=>?_,tracked ⟨oL,hoL,I.free⟩ hs,by simpa using I.len⟩ ⟨_,hs,.inl rfl⟩
  .exact (hs.2 b (A9 (A6 (AD e) I.ok.above))).trans (I.base.keep b o e n hb hx)
  .obtain⟨sl,e1⟩:=I.base.slot b o e n hb hx;exact⟨sl,(hs.2 b (A9 (A6 (AD e) I.ok.above))).trans e1⟩
  .obtain⟨o',e1⟩:=I.base.there b o e hx;exact⟨o',(hs.2 b (A9 (A6 (AD e) I.ok.above))).trans e1⟩
  .by_cases hj:j=i
   .subst hj;rw[hi]at e1;cases e1;rw[List.getElem?_set_self hiσ]at e2
    cases e2
    exact⟨u,r,.inl ⟨hk,by simp⟩⟩
   .rw[List.getElem?_set_ne (B8 hj)]at e2;obtain⟨u',r',q⟩:=hl j y v' e1 e2 e3;refine⟨u',r',?_⟩;rcases q with⟨k,e⟩ |⟨k,c,e,z⟩
    .refine .inl ⟨k,?_⟩;have:y≠x:=λe=>hj (zhI hN e1 (e ▸ hi))
     simp[this,e]
    .exact .inr ⟨k,c,e,z.sameBut hs (cne y c e)⟩
  .obtain⟨w',z⟩:=I.cell y c e;exact⟨w',z.sameBut hs (cne y c e)⟩
  .obtain⟨e,n,ne,nf,d⟩:=I.pin p hp;exact⟨(hs.2 p.1 ne).trans e,n,ne,nf,d⟩
 .have hfn:X.fn x=true := by
   rcases hf with z |z
   .exact z
   .rw[z]at hk;cases hk
  obtain⟨c,hc⟩:=I.ok.has x (.inl hk);obtain⟨w',z⟩:=I.cell x c hc;refine wpAny_storeName_cell I.ok.kind hk hc z (λh' hc' hs=>?_);obtain⟨oc,hoc,hocd⟩:=id z;refine h { s with heap:=h' } ⟨I.ok,I.os,I.bare,⟨λb o e n hb hx=>?_,λb o e n hb hx=>?_,I.base.free,λb o e hx=>?_,I.base.tups,I.base.frzs,I.base.tbls⟩,⟨m,hn.sameBut hs (B8 (cne x c hc)),λj y v' e1 e2 e3=>?_⟩,λy c' e=>?_,I.free,I.freeC,λp hp=>?_,tracked ⟨oc,hoc,I.freeC x c hc⟩ hs,by simpa using I.len⟩ ⟨c,hs,.inr hc⟩
  .exact (hs.2 b (A9 (A6 (AD e) (I.ok.cab x c hfn hc)))).trans (I.base.keep b o e n hb hx)
  .obtain⟨sl,e1⟩:=I.base.slot b o e n hb hx;exact⟨sl,(hs.2 b (A9 (A6 (AD e) (I.ok.cab x c hfn hc)))).trans e1⟩
  .obtain⟨o',e1⟩:=I.base.there b o e hx;exact⟨o',(hs.2 b (A9 (A6 (AD e) (I.ok.cab x c hfn hc)))).trans e1⟩
  .by_cases hj:j=i
   .subst hj;rw[hi]at e1;cases e1;rw[List.getElem?_set_self hiσ]at e2
    cases e2
    exact⟨u,r,.inr ⟨.inl hk,c,hc,hc'⟩⟩
   .rw[List.getElem?_set_ne (B8 hj)]at e2;obtain⟨u',r',q⟩:=hl j y v' e1 e2 e3;refine⟨u',r',?_⟩;rcases q with q |⟨k,c',e,z'⟩
    .exact .inl q
    .refine .inr ⟨k,c',e,z'.sameBut hs ?_⟩;rintro rfl;exact hj (zhI hN e1 (I.ok.inj _ _ _ e hc ▸ hi))
  .by_cases hcc:c'=c
   .subst hcc;exact⟨_,hc'⟩
   .obtain⟨w2,z2⟩:=I.cell y c' e;exact⟨w2,z2.sameBut hs hcc⟩
  .obtain⟨e,n,ne,nf,d⟩:=I.pin p hp;refine⟨(hs.2 p.1 ?_).trans e,n,ne,nf,d⟩;intro q;rw[q,hoc]at e;have q':oc=p.2:=AW e;exact d w' (by rw[<- q'];exact hocd)
theorem ze4{M:Model}{A:AQ}{E:Value -> Ab -> Prop}{i:Nat}{x:Str}{v:V}{u:Value}{Q:Unit -> Ab -> Prop}(I:Inv X pins σ H s)(hN:X.N.Nodup)(hi:X.N[i]? = some x)(hx:Loc X.env.scope x)(r:RelV v u)
  (h:∀s',Inv X pins (σ.set i (some v)) H s'->Q () s') (hf:X.fn x=true∨X.env.scope.names.lookup x=some .local:=by first |exact .inl rfl |exact .inr rfl |assumption):Au M A (storeName X.env x u) Q E s :=
 zdI I hN hi hx r (λs' I' _=>h s' I') hf
theorem Inv.call'{s':Ab}{ch:List Addr}(I:Inv X pins σ H s)(ho:s'.os=s.os)(u:Un (frs X.stack) ch H H' s.heap s'.heap)(hok:HOk X.prog X.w H' s'.heap)(hg:AllBare s'.gens)
  (hch:∀b∈ch,(b∈X.ex∨X.s₀.heap.objs.size<=b)/\b≠X.env.locals/\(∀x c,X.env.cells.lookup x=some c->c≠b)/\∀p∈X.pn++pins,p.1≠b):Inv X pins σ H' s':=by
 obtain⟨h',g',d',t',o'⟩:=s';have e:o'=s.os:=ho;subst e;exact I.call (g':=g') (t':=t') (d':=d') u hok hg hch
end
noncomputable abbrev XK:=Value->Option Addr->Hp->Prop
noncomputable abbrev St:=List (Option V)
noncomputable abbrev VK:=V->Hp->Prop
noncomputable abbrev TE:=St->Hp->VK->Prop
noncomputable abbrev TT:=St->Hp->(Bool->Hp->Prop)->Prop
noncomputable abbrev TA:=St->Hp->(List V->Hp->Prop)->Prop
structure Ends where
 nx:St->Hp->Prop
 rt:VK
 bk:St->Hp->Prop:=λ_ _=>False
 ct:St->Hp->Prop:=λ_ _=>False
noncomputable abbrev TS:=Ends->St->Hp->Prop
noncomputable def EP(X:Cx)(pins:List (Addr×Obj))(σ:St)(Q:VK)(u:Value)(s':Ab):Prop:=∃v H',Inv X pins σ H' s'/\RelV v u/\Q v H'
noncomputable def TP(X:Cx)(pins:List (Addr×Obj))(σ:St)(Q:Bool->Hp->Prop)(b:Bool)(s':Ab):Prop:=∃H',Inv X pins σ H' s'/\Q b H'
noncomputable def AP(X:Cx)(pins:List (Addr×Obj))(σ:St)(Q:List V->Hp->Prop)(us:List Value)(s':Ab):Prop:=∃vs H',Inv X pins σ H' s'/\Vals vs us/\Q vs H'
noncomputable def SP(X:Cx)(pins:List (Addr×Obj))(D:Ends)(f:Flow)(s':Ab):Prop :=
 match f with
 |.next=>∃ σ' H',Inv X pins σ' H' s'/\D.nx σ' H'
 |.brk=>∃ σ' H',Inv X pins σ' H' s'/\D.bk σ' H'
 |.cont=>∃ σ' H',Inv X pins σ' H' s'/\D.ct σ' H'
 |.ret u=>∃v σ' H',Inv X pins σ' H' s'/\RelV v u/\D.rt v H'
noncomputable def PE(X:Cx)(e:Expr)(t:TE):Prop :=
 ∀(pins:List (Addr×Obj)) (s:Ab) (σ:St) (H:Hp) (Q:VK),Inv X pins σ H s->t σ H Q->Au (AA X.prog X.w) X.A (eval e X.env) (EP X pins σ Q) X.xe s
noncomputable def PT(X:Cx)(e:Expr)(t:TT):Prop :=
 ∀(pins:List (Addr×Obj)) (s:Ab) (σ:St) (H:Hp) (Q:Bool->Hp->Prop),Inv X pins σ H s->t σ H Q->Au (AA X.prog X.w) X.A (isTrue e X.env (eval e X.env)) (TP X pins σ Q) X.xe s
noncomputable def PW(X:Cx)(e:Expr)(t:TT):Prop :=
 ∀(whole:Sem Value) (pins:List (Addr×Obj)) (s:Ab) (σ:St) (H:Hp) (Q:Bool->Hp->Prop),Inv X pins σ H s->t σ H Q->Au (AA X.prog X.w) X.A (isTrue e X.env whole) (TP X pins σ Q) X.xe s
theorem PW.pt{X:Cx}{e:Expr}{t:TT}(h:PW X e t):PT X e t:=h _
noncomputable def PA(X:Cx)(es:List Expr)(t:TA):Prop :=
 ∀(pos:Pos) (pins:List (Addr×Obj)) (s:Ab) (σ:St) (H:Hp) (Q:List V->Hp->Prop),Inv X pins σ H s->t σ H Q->Au (AA X.prog X.w) X.A (spliced (backTo pos (Bl es X.env))) (AP X pins σ Q) X.xe s
noncomputable def PS(X:Cx)(st:Stmt)(t:TS):Prop :=
 ∀(pins:List (Addr×Obj)) (s:Ab) (σ:St) (H:Hp) (D:Ends),Inv X pins σ H s->t D σ H->Au (AA X.prog X.w) X.A (exec st X.env) (SP X pins D) X.xe s
noncomputable def PSs(X:Cx)(st:List Stmt)(t:TS):Prop :=
 ∀(pins:List (Addr×Obj)) (s:Ab) (σ:St) (H:Hp) (D:Ends),Inv X pins σ H s->t D σ H->Au (AA X.prog X.w) X.A (execs st X.env) (SP X pins D) X.xe s
theorem thn{α:Type}{t:Sem α}{Q Q':α->Ab->Prop}{M:Model}{A:AQ}{E:Value->Ab->Prop}{s:Ab}(h:Au M A t Q E s)(hQ:∀a s,Q a s->Q' a s):Au M A t Q' E s:=BQ h hQ λ_ _ x=>x
section
variable {X:Cx}
noncomputable def tVar(i:Nat):TE:=λσ H Q=>∃v,σ[i]?=some (some v)/\Q v H
noncomputable def tC(v:V):TE:=λ_ H Q=>Q v H
theorem zl7 {i:Nat}{x:Str}{pos:Pos}(hN:X.N[i]?=some x) (hv:Vis X.env.scope x) (hd:(x == ("__debug__" : Str))=false:=by decide) (hcd:(x == ("__classdict__" : Str))=false:=by decide):PE X (.Name x pos) (tVar i):=by
 intro pins s σ H Q I h;obtain⟨v,e,h⟩:=h;obtain⟨m,hn,hl⟩:=I.loc;obtain⟨u,r,l⟩:=hl i x v hN e hv;have fin:EP X pins σ Q u s:=⟨v,H,I,r,h⟩;rcases l with⟨hk,hm⟩ |⟨hk,c,hc,hcell⟩
 .exact wpAny_Name (wpAny_loadName_local I.ok.kind hk hn hm fin) hd
 .rcases hk with hk |hk
  .exact wpAny_Name (wpAny_loadName_cell I.ok.kind hk hc hcell fin) hd
  .exact wpAny_Name (wpAny_loadName_free I.ok.kind hk hc hcell fin hcd) hd
theorem zab{i j pos}:PE X (.Constant (.int i) j pos) (tC (.int i)):=λ_ _ _ H _ I h=>wpAny_Constant_int ⟨.int i,H,I.tok _,⟨_,rfl⟩,h⟩
theorem pe_bl{b j pos}:PE X (.Constant (.bool b) j pos) (tC (.bl b)):=λ_ _ _ H _ I h=>Constant_bool ⟨.bl b,H,I,rfl,h⟩
theorem zbm{j pos}:PE X (.Constant .none j pos) (tC .non):=λ_ _ _ H _ I h=>Constant_none ⟨.non,H,I,rfl,h⟩
theorem zdo{x j pos}:PE X (.Constant (.str x) j pos) (tC (.str x)):=λ_ _ _ H _ I h=>Calls.Constant_str ⟨.str x,H,I.tok _,⟨_,rfl⟩,h⟩
noncomputable def Gl(X:Cx)(x:Str):Prop:=X.env.kindOf x=some .globalImplicit
theorem zha{E:Value -> Ab -> Prop}{pins:List (Addr × Obj)}{s:Ab}{σ : St}{H:Hp}{x:Str}{u:Value}{pos:Pos}{Q:Value -> Ab -> Prop}(I:Inv X pins σ H s)(hg:Gl X x)(hm:X.mg x=some u)(h:Q u s)
  (hd:(x == ("__debug__" : Str))=false:=by decide):Au (AA X.prog X.w) X.A (eval (.Name x pos) X.env) Q E s :=
 Calls.Name_function_global I.ok.kind hg (Calls.loadGlobal_global (by rw[I.ok.glob];exact I.mod.glob.keeps I.bk) hm h) hd
theorem zd8{E:Value -> Ab -> Prop}{pins:List (Addr × Obj)}{s:Ab}{σ : St}{H:Hp}{x:Str}{u:Value}{pos:Pos}{Q:Value -> Ab -> Prop}(I:Inv X pins σ H s)(hg:Gl X x)(hm:X.mg x=none)(hv:bootBuiltins x=some u)(h:Q u s)
  (hn:x ≠ "__name__":=by decide) (hd:(x == ("__debug__" : Str))=false:=by decide):Au (AA X.prog X.w) X.A (eval (.Name x pos) X.env) Q E s:=by
 obtain⟨mb,h1,h2⟩:=I.mod.blt;exact Calls.Name_function_global I.ok.kind hg (Calls.loadGlobal_builtin (by rw[I.ok.glob];exact I.mod.glob.keeps I.bk) hm (by rw[I.ok.blt];exact h1.keeps I.bk) ((h2 x hn).trans hv) h) hd
theorem zdY {x:Str}{v:V}{u:Value}{pos:Pos}(hg:Gl X x) (hm:X.mg x=some u) (r:RelV v u) (hd:(x == ("__debug__" : Str))=false:=by decide):PE X (.Name x pos) (tC v) :=
 λ_ _ _ H _ I h=>zha I hg hm ⟨v,H,I,r,h⟩ hd
theorem zfk {x:Str}{v:V}{u:Value}{pos:Pos}(hg:Gl X x) (hm:X.mg x=none) (hv:bootBuiltins x=some u) (r:RelV v u) (hn:x ≠ "__name__":=by decide) (hd:(x == ("__debug__" : Str))=false:=by decide):PE X (.Name x pos) (tC v) :=
 λ_ _ _ H _ I h=>zd8 I hg hm hv ⟨v,H,I,r,h⟩ hn hd
variable {a b:Expr}{ta tb:TE}{pos:Pos}
noncomputable def PC(X:Cx)(op:CmpOp)(a b:Expr)(t:TE):Prop :=
 ∀(pins:List (Addr×Obj)) (s:Ab) (σ:St) (H:Hp) (Q:VK),Inv X pins σ H s->t σ H Q ->
  Au (AA X.prog X.w) X.A (eval a X.env) (λv s₁=>Au (AA X.prog X.w) X.A (eval b X.env) (λu s₂=>Au (AA X.prog X.w) X.A (Bu op v u) (EP X pins σ Q) X.xe s₂) X.xe s₁) X.xe s
noncomputable def tB(t:TE):TT:=λσ H Q=>t σ H λx H1=>∃c,x=.bl c/\Q c H1
theorem zma{op:CmpOp}{t:TE}(h:PC X op a b t)(h1:Dq op b=false:=by first |exact nobehind _ (by decide) (by decide) |rfl):PE X (.Compare a [op] [b] pos) t:=λpins s σ H Q I hw=>wpAny_Compare1 (h pins s σ H Q I hw) h1
theorem zi3{op:CmpOp}{t:TE}(h:PC X op a b t)(h1:Dq op b=false:=by first |exact nobehind _ (by decide) (by decide) |rfl):PT X (.Compare a [op] [b] pos) (tB t):=by
 intro pins s σ H Q I hw;refine wpAny_isTrue_Compare1 (thn (h pins s σ H _ I hw) λv s1 h1=>thn h1 λu s2 h2=>thn h2 λc s3 ⟨x,H1,I1,r1,q1⟩=>?_) h1;obtain⟨d,rfl,q⟩:=q1
 cases r1
 exact BL ⟨H1,I1,q⟩
theorem zco{e:Expr}{t:TE}(h:PE X e t)(he:∀whole,isTrue e X.env whole=(do let v <- whole;standAt e.pos;Dt [v] (truthy v)):=by intro _;rfl):PT X e (tB t):=by
 intro pins s σ H Q I hw;refine isTrue_plain (thn (h pins s σ H _ I hw) λv s1 ⟨x,H1,I1,r1,q1⟩=>?_) (he _);obtain⟨d,rfl,q⟩:=q1
 cases r1
 exact BL ⟨H1,I1,q⟩
variable {tA tB':TT}{rest:List Expr}
noncomputable def tAnd(t u:TT):TT:=λσ H Q=>t σ H λc H1=>if c=true then u σ H1 Q else Q false H1
noncomputable def tOr(t u:TT):TT:=λσ H Q=>t σ H λc H1=>if c=true then Q true H1 else u σ H1 Q
noncomputable def tNot(t:TT):TT:=λσ H Q=>t σ H λc H1=>Q (!c) H1
theorem zll(ha:PT X a tA):PW X (.BoolOp .And [a] pos) tA:=by
 intro wh pins s σ H Q I h;refine isTrue_and (thn (ha pins s σ H Q I h) λc s1 e=>?_)
 cases c with
 |true=>exact isTrue_and_nil e
 |false=>exact e
theorem zf9(ha:PT X a tA):PW X (.BoolOp .Or [a] pos) tA:=by
 intro wh pins s σ H Q I h;refine isTrue_or (thn (ha pins s σ H Q I h) λc s1 e=>?_)
 cases c with
 |false=>exact isTrue_or_nil e
 |true=>exact e
theorem zl5(ha:PT X a tA)(hb:PW X (.BoolOp .And (b::rest) pos) tB'):PW X (.BoolOp .And (a::b::rest) pos) (tAnd tA tB'):=by
 intro wh pins s σ H Q I h;refine isTrue_and (thn (ha pins s σ H _ I h) λc s1 ⟨H1,I1,q1⟩=>?_)
 cases c with
 |true=>exact hb wh pins s1 σ H1 Q I1 q1
 |false=>exact⟨H1,I1,q1⟩
theorem pw_or(ha:PT X a tA)(hb:PW X (.BoolOp .Or (b::rest) pos) tB'):PW X (.BoolOp .Or (a::b::rest) pos) (tOr tA tB'):=by
 intro wh pins s σ H Q I h;refine isTrue_or (thn (ha pins s σ H _ I h) λc s1 ⟨H1,I1,q1⟩=>?_)
 cases c with
 |true=>exact⟨H1,I1,q1⟩
 |false=>exact hb wh pins s1 σ H1 Q I1 q1
theorem zcV(ha:PT X a tA):PT X (.UnaryOp .Not a pos) (tNot tA):=by intro pins s σ H Q I h;exact isTrue_not (ha pins s σ H (λc H1=>Q (!c) H1) I h)
noncomputable def tAndV(ta tb:TE):TE:=λσ H Q=>ta σ H λx H1=>∃c,x=.bl c/\if c=true then tb σ H1 Q else Q (.bl false) H1
noncomputable def tOrV(ta tb:TE):TE:=λσ H Q=>ta σ H λx H1=>∃c,x=.bl c/\if c=true then Q (.bl true) H1 else tb σ H1 Q
noncomputable def tNotV(ta:TE):TE:=λσ H Q=>ta σ H λx H1=>∃c,x=.bl c/\Q (.bl (!c)) H1
theorem zeS{op}{t:TE}(h:PE X a t):PE X (.BoolOp op [a] pos) t:=λpins s σ H Q I hw=>BoolOp_one (h pins s σ H Q I hw)
theorem zdZ(ha:PE X a ta)(hb:PE X (.BoolOp .And (b::rest) pos) tb):PE X (.BoolOp .And (a::b::rest) pos) (tAndV ta tb):=by
 intro pins s σ H Q I h;refine BoolOp_and (thn (ha pins s σ H _ I h) λv s1 ⟨x,H1,I1,r1,q1⟩=>?_);obtain⟨c,rfl,q1⟩:=q1
 cases r1
 refine BL ?_
 cases c with
 |true=>exact hb pins s1 σ H1 Q I1 q1
 |false=>exact⟨.bl false,H1,I1,rfl,q1⟩
theorem pe_or(ha:PE X a ta)(hb:PE X (.BoolOp .Or (b::rest) pos) tb):PE X (.BoolOp .Or (a::b::rest) pos) (tOrV ta tb):=by
 intro pins s σ H Q I h;refine BoolOp_or (thn (ha pins s σ H _ I h) λv s1 ⟨x,H1,I1,r1,q1⟩=>?_);obtain⟨c,rfl,q1⟩:=q1
 cases r1
 refine BL ?_
 cases c with
 |false=>exact hb pins s1 σ H1 Q I1 q1
 |true=>exact⟨.bl true,H1,I1,rfl,q1⟩
theorem zjb(ha:PE X a ta):PE X (.UnaryOp .Not a pos) (tNotV ta):=by
 intro pins s σ H Q I h;refine UnaryOp_ (thn (ha pins s σ H _ I h) λv s1 ⟨x,H1,I1,r1,q1⟩=>?_);obtain⟨c,rfl,q1⟩:=q1
 cases r1
 exact not_of (BL ⟨.bl (!c),H1,I1,rfl,q1⟩)
noncomputable def tIf(t:TT)(ta tb:TE):TE:=λσ H Q=>t σ H λc H1=>if c=true then ta σ H1 Q else tb σ H1 Q
theorem zfh{c:Expr}(hc:PT X c tA)(ha:PE X a ta)(hb:PE X b tb):PE X (.IfExp c a b pos) (tIf tA ta tb):=by
 intro pins s σ H Q I h;refine wpAny_IfExp (thn (hc pins s σ H _ I h) λd s1 ⟨H1,I1,q1⟩=>?_)
 cases d with
 |true=>exact ha pins s1 σ H1 Q I1 q1
 |false=>exact hb pins s1 σ H1 Q I1 q1
end
noncomputable def SqL(K:W.Frag)(H:Hp)(a:Addr)(xs:List V):Prop :=
 Rd H a (.lst xs) ∨
  ∃(o:Obj) (its:Array Value) (n:Nat),K.lookup a=some o/\o.cls=.type "list" /\ o.dict=none/\o.data=.seq its n/\its.size<=sizeLine/\Vals xs its.toList
noncomputable def SqT(K:W.Frag)(H:Hp)(a:Addr)(xs:List V):Prop :=
 Rd H a (.tup xs) ∨
  ∃(o:Obj) (its:Array Value) (n:Nat),K.lookup a=some o/\o.cls=.type "tuple" /\ o.data=.seq its n/\its.size<=sizeLine/\Vals xs its.toList
noncomputable def absV:Value->Option V
 |.none=>some .non
 |.bool b=>some (.bl b)
 |.int i _=>some (.int i)
 |.str x _=>some (.str x)
 |.bytes b _=>some (.byt b)
 |.float b _=>some (.flt b)
 |.ref a=>some (.ref a)
 |.type n=>some (.ty n)
 |_=>none
theorem RelV.abs{x:V}{u:Value}(r:RelV x u):absV u=some x:=by
 cases x with
 |non=>cases r;rfl
 |bl _=>cases r;rfl
 |int _=>obtain⟨t,rfl⟩:=r;rfl
 |str _=>obtain⟨t,rfl⟩:=r;rfl
 |byt _=>obtain⟨t,rfl⟩:=r;rfl
 |flt _=>obtain⟨t,rfl⟩:=r;rfl
 |ref _=>cases r;rfl
 |ty _=>cases r;rfl
theorem RelV.inj{x y:V}{u:Value}(r:RelV x u)(q:RelV y u):x=y:=AW (r.abs.symm.trans q.abs)
theorem Vals.inj:∀{xs ys:List V}{us:List Value},Vals xs us->Vals ys us->xs=ys
 |_,_,_,.nil,.nil=>rfl
 |_,_,_,.cons r t,.cons r' t'=>by rw[r.inj r',Vals.inj t t']
section
variable {X:Cx}{pins:List (Addr×Obj)}{σ:St}{H:Hp}{s:Ab}{a:Addr}{xs ys:List V}
theorem SqL.of{K:W.Frag}(h:H a=some (.lst xs)):SqL K H a xs:=.inl (.inl h)
theorem SqT.of{K:W.Frag}(h:H a=some (.tup xs)):SqT K H a xs:=.inl (.inl h)
theorem Inv.list(I:Inv X pins σ H s)(h:SqL X.K H a xs):∃its:List Value,Vals xs its/\PlainL s.heap a its.toArray/\xs.length<=sizeLine:=by
 rcases h with h |⟨o,its,n,hk,hc,hd,hs,hz,r⟩
 .obtain⟨z,its,n,r,e⟩:=h.ok I.hok;exact⟨its,r,⟨_,n,e,rfl,rfl,rfl⟩,z⟩
 .refine⟨its.toList,r,⟨o,n,I.kIn a o hk,hc,hd,by simpa using hs⟩,?_⟩;have e:=r.length;simp only[AG]at e;lia
theorem Inv.tuple(I:Inv X pins σ H s)(h:SqT X.K H a xs):∃its:List Value,Vals xs its/\IsTup s.heap a its.toArray/\xs.length<=sizeLine:=by
 rcases h with h |⟨o,its,n,hk,hc,hs,hz,r⟩
 .obtain⟨z,its,r,p⟩:=h.ok I.hok;exact⟨its,r,p,z⟩
 .refine⟨its.toList,r,⟨o,I.kIn a o hk,hc,n,by simpa using hs⟩,?_⟩;have e:=r.length;simp only[AG]at e;lia
theorem Inv.list_inj(I:Inv X pins σ H s)(h:SqL X.K H a xs)(h':SqL X.K H a ys):xs=ys:=by
 obtain⟨its,r,⟨o,n,e,_,_,d⟩,_⟩:=I.list h;obtain⟨its',r',⟨o',n',e',_,_,d'⟩,_⟩:=I.list h';rw[e]at e';cases e';rw[d]at d';injection d' with d1 _;have:its=its':=by simpa using congrArg Array.toList d1
 subst this;exact r.inj r'
theorem Inv.tuple_inj(I:Inv X pins σ H s)(h:SqT X.K H a xs)(h':SqT X.K H a ys):xs=ys:=by
 obtain⟨its,r,⟨o,e,_,n,d⟩,_⟩:=I.tuple h;obtain⟨its',r',⟨o',e',_,n',d'⟩,_⟩:=I.tuple h';rw[e]at e';cases e';rw[d]at d';injection d' with d1 _;have:its=its':=by simpa using congrArg Array.toList d1
 subst this;exact r.inj r'
end
noncomputable abbrev Cx.wish(X:Cx)(E:Value->Ab->Prop):Cx:={ X with xe:=E }
noncomputable abbrev Cx.nox(X:Cx):Cx:=X.wish λ_ _=>False
theorem Cx.Ok.wish{X:Cx}(ok:X.Ok)(E:Value->Ab->Prop):(X.wish E).Ok :=
 ⟨ok.mod,ok.kind,ok.glob,ok.blt,ok.above,ok.inj,ok.has,ok.cab,ok.hd,ok.frames,ok.stk,ok.exf,ok.bs,ok.bsz,ok.noex,ok.exfs,ok.funs,ok.frf⟩
theorem Cx.Ok.unwish{X:Cx}{E:Value->Ab->Prop}(ok:(X.wish E).Ok):X.Ok :=
 ⟨ok.mod,ok.kind,ok.glob,ok.blt,ok.above,ok.inj,ok.has,ok.cab,ok.hd,ok.frames,ok.stk,ok.exf,ok.bs,ok.bsz,ok.noex,ok.exfs,ok.funs,ok.frf⟩
section
variable {X:Cx}{pins:List (Addr×Obj)}{σ:St}{H:Hp}{s:Ab}{E:Value->Ab->Prop}
theorem Inv.wish(I:Inv X pins σ H s)(E:Value->Ab->Prop):Inv (X.wish E) pins σ H s:=⟨I.ok.wish E,I.os,I.bare,I.base,I.loc,I.cell,I.free,I.freeC,I.pin,I.hok,I.len⟩
theorem Inv.unwish(I:Inv (X.wish E) pins σ H s):Inv X pins σ H s:=⟨I.ok.unwish,I.os,I.bare,I.base,I.loc,I.cell,I.free,I.freeC,I.pin,I.hok,I.len⟩
theorem SP.unwish{D:Ends}{f:Flow}{s':Ab}(h:SP (X.wish E) pins D f s'):SP X pins D f s':=by
 cases f with
 |next=>obtain⟨σ',H',I,q⟩:=h;exact⟨σ',H',I.unwish,q⟩
 |brk=>obtain⟨σ',H',I,q⟩:=h;exact⟨σ',H',I.unwish,q⟩
 |cont=>obtain⟨σ',H',I,q⟩:=h;exact⟨σ',H',I.unwish,q⟩
 |ret u=>obtain⟨v,σ',H',I,r,q⟩:=h;exact⟨v,σ',H',I.unwish,r,q⟩
theorem PSs.nox{st:List Stmt}{t:TS}(h:PSs X.nox st t):PSs X st t:=λpins s σ H D I hw =>
 BQ (h pins s σ H D (I.wish _) hw) (λ_ _ q=>q.unwish) λ_ _ z=>BI z
end
section
variable {X:Cx}{st:Stmt}{rest:List Stmt}{t u:TS}{e:Expr}{te:TE}{pos:Pos}
noncomputable def tNext:TS:=λD σ H=>D.nx σ H
noncomputable def tSeq(t u:TS):TS:=λD σ H=>t { D with nx:=u D } σ H
theorem zas:PSs X [] tNext:=λ_ _ σ H _ I h=>wpAny_execs_nil ⟨σ,H,I,h⟩
theorem zac(h1:PS X st t)(h2:PSs X rest u):PSs X (st::rest) (tSeq t u):=by
 intro pins s σ H D I h;refine wpAny_execs_cons (thn (h1 pins s σ H { D with nx:=u D } I h) λf s1 q=>?_)
 cases f with
 |next =>
  obtain⟨σ',H',I',q⟩:=q;exact h2 pins s1 σ' H' D I' q
 |ret v=>exact q
 |brk=>exact q
 |cont=>exact q
theorem zaf(h1:PS X st t):PSs X [st] t:=by
 intro pins s σ H D I h;refine wpAny_execs_cons (thn (h1 pins s σ H D I h) λf s1 q=>?_)
 cases f with
 |next=>exact wpAny_execs_nil q
 |ret v=>exact q
 |brk=>exact q
 |cont=>exact q
theorem Inv.quiet{pins:List (Addr×Obj)}{σ:St}{H:Hp}{s:Ab}(I:Inv X pins σ H s):interactive X.env=false:=by simp[interactive,I.ok.kind]
noncomputable def tDrop(te:TE):TS:=λD σ H=>te σ H λ_ H1=>D.nx σ H1
theorem za8(he:PE X e te)(hs:swapsWith e none pos.line X.env=pure false:=by rfl):PS X (.Expr e pos) (tDrop te):=by intro pins s σ H D I h;exact wpAny_Expr_any (thn (he pins s σ H _ I h) λv s1 ⟨x,H1,I1,r1,q1⟩=>⟨σ,H1,I1,q1⟩) I.quiet hs
noncomputable def tRet(te:TE):TS:=λD σ H=>te σ H D.rt
theorem zaj(he:PE X e te):PS X (.Return (some e) pos) (tRet te):=by intro pins s σ H D I h;exact wpAny_Return_some (thn (he pins s σ H _ I h) λv s1 ⟨x,H1,I1,r1,q1⟩=>⟨x,σ,H1,I1,r1,q1⟩)
noncomputable def tIfS(c:TT)(t u:TS):TS:=λD σ H=>c σ H λb H1=>if b=true then t D σ H1 else u D σ H1
theorem ps_if{c:Expr}{a b:List Stmt}{tc:TT}(hc:PT X c tc)(ha:PSs X a t)(hb:PSs X b u):PS X (.If c a b pos) (tIfS tc t u):=by
 intro pins s σ H D I h;refine wpAny_If (thn (hc pins s σ H _ I h) λd s1 ⟨H1,I1,q1⟩=>?_)
 cases d with
 |true=>exact ha pins s1 σ H1 D I1 q1
 |false=>exact hb pins s1 σ H1 D I1 q1
noncomputable def zlT:TS:=λ_ _ _=>False
theorem zj6:PS X st zlT:=λ_ _ _ _ _ _ h=>h.elim
end
noncomputable abbrev TG:=V->St->Hp->(St->Hp->Prop)->Prop
noncomputable abbrev TGs:=List V->St->Hp->(St->Hp->Prop)->Prop
noncomputable def PG(X:Cx)(target:Expr)(t:TG):Prop :=
 ∀(pins:List (Addr×Obj)) (s:Ab) (σ:St) (H:Hp) (v:V) (u:Value) (Q:St->Hp->Prop),Inv X pins σ H s->RelV v u->t v σ H Q ->
  Au (AA X.prog X.w) X.A (assign target X.env u) (λ_ s'=>∃ σ' H',Inv X pins σ' H' s'/\Q σ' H') X.xe s
noncomputable def PGs(X:Cx)(ts:List Expr)(t:TGs):Prop :=
 ∀(pins:List (Addr×Obj)) (s:Ab) (σ:St) (H:Hp) (vs:List V) (us:List Value) (Q:St->Hp->Prop),Inv X pins σ H s->Vals vs us->t vs σ H Q ->
  Au (AA X.prog X.w) X.A (assignInOrder ((Dz ts X.env).map (·.2)) us) (λ_ s'=>∃ σ' H',Inv X pins σ' H' s'/\Q σ' H') X.xe s
noncomputable abbrev TSet:=V->V->V->Hp->(Hp->Prop)->Prop
noncomputable def PSet(X:Cx)(t:TSet):Prop :=
 ∀(pins:List (Addr×Obj)) (s:Ab) (σ:St) (H:Hp) (o i v:V) (ov iv u:Value) (Q:Hp->Prop),Inv X pins σ H s->RelV o ov->RelV i iv->RelV v u->t o i v H Q ->
  Au (AA X.prog X.w) X.A (setItem ov iv u) (λ_ s'=>∃H',Inv X pins σ H' s'/\Q H') X.xe s
noncomputable abbrev TIp:=V->V->Hp->VK->Prop
noncomputable def PIp(X:Cx)(op:Operator)(t:TIp):Prop :=
 ∀(pins:List (Addr×Obj)) (s:Ab) (σ:St) (H:Hp) (x y:V) (v u:Value) (Q:VK),Inv X pins σ H s->RelV x v->RelV y u->t x y H Q ->
  Au (AA X.prog X.w) X.A (inplaceOp op v u) (EP X pins σ Q) X.xe s
section
variable {X:Cx}{pos:Pos}
noncomputable def gName(i:Nat):TG:=λv σ H Q=>Q (σ.set i (some v)) H
theorem zlm{i:Nat}{x:Str}(hN:X.N.Nodup)(hi:X.N[i]?=some x)(hx:Loc X.env.scope x)(hf:X.fn x=true∨X.env.scope.names.lookup x=some .local:=by first |exact .inl rfl |exact .inr rfl |assumption):PG X (.Name x pos) (gName i):=by intro pins s σ H v u Q I r h;exact wpAny_assign_Name (ze4 I hN hi hx r (λs' I'=>⟨_,H,I',h⟩) hf)
noncomputable def gNil:TGs:=λvs σ H Q=>vs=[]/\Q σ H
noncomputable def gCons(t:TG)(u:TGs):TGs:=λvs σ H Q=>∃v r,vs=v::r/\t v σ H λσ' H'=>u r σ' H' Q
theorem zaG:PGs X [] gNil:=by
 intro pins s σ H vs us Q I r h;obtain⟨e,h⟩:=h;subst e
 cases r
 exact assignInOrder_nil ⟨σ,H,I,h⟩
theorem zah{e:Expr}{es:List Expr}{t:TG}{u:TGs}(h1:PG X e t)(h2:PGs X es u)
  (hs:(Dz (e::es) X.env).map (·.2)=assign e X.env::(Dz es X.env).map (·.2):=by rfl):PGs X (e::es) (gCons t u):=by
 intro pins s σ H vs us Q I r h;obtain⟨v,vr,e1,h⟩:=h;subst e1
 cases r with
 |cons r rr =>
  rw[hs];refine assignInOrder_cons (thn (h1 pins s σ H _ _ _ I r h) λ_ s1 ⟨σ1,H1,I1,q1⟩=>?_);exact h2 pins s1 σ1 H1 _ _ Q I1 rr q1
noncomputable def gTup(K:W.Frag)(n:Nat)(t:TGs):TG:=λv σ H Q=>∃a xs,v=.ref a/\SqT K H a xs/\xs.length=n/\t xs σ H Q
theorem zbl{es:List Expr}{k:Nat}{t:TGs}{n:Nat}(hc:X.calm=true)(h:PGs X es t)
  (hn:(Dz es X.env).length=n:=by rfl) (hst:(Dz es X.env).findIdx? (·.1)=none:=by rfl):PG X (.Tuple es k pos) (gTup X.K n t):=by
 intro pins s σ H v u Q I r hw;obtain⟨a,xs,e1,hq,hl,hw⟩:=hw;subst e1
 cases r
 obtain⟨its,rv,ht,hz⟩:=I.tuple hq;refine assign_Tuple_tuple (I.ok.hd hc) ht (by simp[hn,<- hl,rv.length]) hst λh' hx=>?_
 have I1:Inv X pins σ H { s with heap:=h' }:=I.kept (t':=s.toks) λb o e=>hx b o (A9 (AD e)) e
 exact h pins _ σ H xs _ Q I1 (by simpa using rv) hw
noncomputable def gSub(to ti:TE)(t:TSet):TG:=λv σ H Q=>to σ H λo H1=>ti σ H1 λi H2=>t o i v H2 λH3=>Q σ H3
theorem zkK{o i:Expr}{to ti:TE}{t:TSet}(ho:PE X o to)(hi:PE X i ti)(hs:PSet X t)
  (ha:∀v,assign (.Subscript o i pos) X.env v=(do
   let ov <- Dt [v] (eval o X.env)
   let iv <- Dt [v,ov] (eval i X.env)
   standAt pos
   Dt [v,ov,iv] (setItem ov iv v)
   release [v,ov,iv] []):=by intro _;rfl):PG X (.Subscript o i pos) (gSub to ti t):=by
 intro pins s σ H v u Q I r h;rw[ha];refine Ad (By (thn (ho pins s σ H _ I h) λov s1 ⟨x,H1,I1,r1,q1⟩=>?_));refine Ad (By (thn (hi pins s1 σ H1 _ I1 q1) λiv s2 ⟨y,H2,I2,r2,q2⟩=>?_));refine Ad (CK (Ad (By (thn (hs pins s2 σ H2 x y v ov iv u _ I2 r1 r2 r q2) λ_ s3 ⟨H3,I3,q3⟩=>?_))));exact wpAny_release ⟨σ,H3,I3,q3⟩
noncomputable def tAsg(te:TE)(g:TG):TS:=λD σ H=>te σ H λx H1=>g x σ H1 D.nx
theorem zbw{tg e:Expr}{te:TE}{g:TG}(he:PE X e te)(hg:PG X tg g)(hs:swapsWithSole [tg] e pos.line X.env=pure false := by rfl)(hw:swappedStores [tg] e X.env=pure none := by rfl)
  (h1:(Dz [tg] X.env).map (·.2)=[assign tg X.env]:=by rfl):PS X (.Assign [tg] e pos) (tAsg te g):=by
 intro pins s σ H D I h;refine wpAny_Assign_stores (thn (he pins s σ H _ I h) λv s1 ⟨x,H1,I1,r1,q1⟩=>?_) hs hw;rw[h1];exact thn (hg pins s1 σ H1 x v _ I1 r1 q1) λ_ s2 q=>q
theorem zi4{i:Nat}{x:Str}{e:Expr}{te:TE}{pos':Pos}(hN:X.N.Nodup)(hi:X.N[i]? = some x)(hx:Loc X.env.scope x)(he:PE X e te)(hs:swapsWith e (some (.Name x pos')) pos.line X.env=pure false := by rfl)(hf:X.fn x=true ∨ X.env.scope.names.lookup x=some .local := by first |exact .inl rfl |exact .inr rfl |assumption) :
  PS X (.Assign [.Name x pos'] e pos) (tAsg te (gName i)):=by
 intro pins s σ H D I h;refine wpAny_Assign_Name (thn (he pins s σ H _ I h) λv s1 ⟨y,H1,I1,r1,q1⟩=>?_) hs;exact ze4 I1 hN hi hx r1 (λs2 I2=>⟨_,H1,I2,q1⟩) hf
noncomputable def tAug(i:Nat)(te:TE)(ti:TIp):TS:=λD σ H=>∃x,σ[i]?=some (some x)/\te σ H λy H1=>ti x y H1 λz H2=>D.nx (σ.set i (some z)) H2
theorem zl6{i:Nat}{x:Str}{e:Expr}{te:TE}{op:Operator}{ti:TIp}{pos':Pos}(hN:X.N.Nodup)(hi:X.N[i]? = some x)(hx:Loc X.env.scope x)(he:PE X e te)(ho:PIp X op ti)(hf:X.fn x=true ∨ X.env.scope.names.lookup x=some .local := by first |exact .inl rfl |exact .inr rfl |assumption) :
  PS X (.AugAssign (.Name x pos') op e pos) (tAug i te ti):=by
 intro pins s σ H D I h;obtain⟨v,e1,h⟩:=h;obtain⟨m,hn,hl⟩:=I.loc;have vis:Vis X.env.scope x:=by rcases hx with k |k;exact .inl k;exact .inr (.inl k)
 obtain⟨u,r,l⟩:=hl i x v hi e1 vis;refine wpAny_AugAssign_Name ?_
 have go:Au (AA X.prog X.w) X.A (eval e X.env) (λw s₂=>Au (AA X.prog X.w) X.A (inplaceOp op u w) (λr s₃=>Au (AA X.prog X.w) X.A (storeName X.env x r) (λ_=>SP X pins D .next) X.xe s₃) X.xe s₂) X.xe s:=by
  refine thn (he pins s σ H _ I h) λw s1 ⟨y,H1,I1,r1,q1⟩=>?_
  refine thn (ho pins s1 σ H1 v y u w _ I1 r r1 q1) λz s2 ⟨zv,H2,I2,r2,q2⟩=>?_
  exact ze4 I2 hN hi hx r2 (λs3 I3=>⟨_,H2,I3,q2⟩) hf
 rcases l with⟨hk,hm⟩ |⟨hk,c,hc,hcell⟩
 .exact wpAny_loadName_local I.ok.kind hk hn hm go
 .rcases hk with hk |hk
  .exact wpAny_loadName_cell I.ok.kind hk hc hcell go
  .rcases hx with k |k
   .have:X.env.scope.names.lookup x=some .free:=hk;rw[k]at this;cases this
   .have:X.env.scope.names.lookup x=some .free:=hk;rw[k]at this;cases this
noncomputable def ipI(f:Int->Int->Int):TIp:=λx y H Q=>∃i j,x=.int i/\y=.int j/\Q (.int (f i j)) H
theorem zmm:PIp X .Add (ipI λi j=>i+j):=by intro pins s σ H x y v u Q I r1 r2 h;obtain⟨i,j,e1,e2,q⟩:=h;subst e1;subst e2;obtain⟨t,rfl⟩:=r1;obtain⟨t',rfl⟩:=r2;exact iadd_int ⟨.int _,H,I.tok _,⟨_,rfl⟩,q⟩
end
section
variable {X:Cx}{pos:Pos}
noncomputable def zkB(c:TT)(tb:TS):TS:=λD σ H=>∃W:Nat->St->Hp->Prop,(∃m,W m σ H)/\∀m σ H,W m σ H ->
 c σ H λb H1=>if b=true then ∃N:St->Hp->Prop,(∀ σ' H',N σ' H'->∃m',m'<m/\W m' σ' H')/\tb { D with nx:=N,ct:=N,bk:=D.nx } σ H1 else D.nx σ H1
theorem zfg{c:Expr}{body:List Stmt}{tc:TT}{tb:TS}(hp:PassesOwn (AA X.prog X.w) X.A X.env X.xe)(hc:PT X c tc)(hb:PSs X body tb):PS X (.While c body [] pos) (zkB tc tb):=by
 intro pins s σ H D I h;obtain⟨W,⟨m0,w0⟩,turn⟩:=h;refine wpAny_While (codeAny_whileLoop (λn s'=>∃ σ' H',Inv X pins σ' H' s'/\W n σ' H') ?_ m0 ⟨σ,H,I,w0⟩);rintro n s1 ⟨σ1,H1,I1,w1⟩;refine CC hp (thn (hc pins s1 σ1 H1 _ I1 (turn n σ1 H1 w1)) λb s2 ⟨H2,I2,q2⟩=>?_)
 cases b with
 |true =>
  obtain⟨N,hN,q2⟩:=q2;rw[if_pos rfl];refine CC hp (thn (hb pins s2 σ1 H2 _ I2 q2) λf s3 q3=>?_)
  cases f with
  |next =>
   obtain⟨σ3,H3,I3,n3⟩:=q3;obtain⟨m',hm,w3⟩:=hN σ3 H3 n3;exact⟨m',hm,σ3,H3,I3,w3⟩
  |cont =>
   obtain⟨σ3,H3,I3,n3⟩:=q3;obtain⟨m',hm,w3⟩:=hN σ3 H3 n3;exact⟨m',hm,σ3,H3,I3,w3⟩
  |brk=>exact q3
  |ret v=>exact q3
 |false =>
  rw[if_neg Aw];exact wpAny_execs_nil ⟨σ1,H2,I2,q2⟩
end
structure It where
 go:Nat->Hp->Prop
 yld:Nat->Hp->V->Hp->Prop
 stop:Nat->Hp->Prop
noncomputable def FpOk(X:Cx)(pins:List (Addr×Obj))(H:Hp)(b:Addr):Prop :=
 H b=none/\b≠X.env.locals/\b ∉ X.fs/\(b∈X.ex∨X.s₀.heap.objs.size<=b)/\(∀x c,X.env.cells.lookup x=some c->c≠b)/\∀p∈X.pn++pins,p.1≠b
theorem Inv.fpOk{X:Cx}{pins:List (Addr×Obj)}{σ:St}{H H':Hp}{s:Ab}{b:Addr}(I:Inv X pins σ H s)(hb:s.heap.objs.size<=b)(hn:H' b=none):FpOk X pins H' b:=by
 refine⟨hn,Nat.ne_of_gt (A6 I.lt hb),I.nofs hb,.inr (Bf I.sz hb),λx c e z=>?_,λp hp z=>?_⟩
 .obtain⟨v,q⟩:=I.cell x c e;exact absurd (A6 q.lt (by rw[z];exact hb)) (Cn _)
 .exact absurd (A6 (AD (I.pin p hp).1) (by rw[z];exact hb)) (Cn _)
structure Turn (P:AF) (w:A4) (K:W.Frag) (tg:Expr) (J:It) (fp:List Addr) (it:Addr) (tn:Nat->Heap->Prop):Prop where
 mem:it∈fp
 obj:∀i h,tn i h->∀b∈fp,∃o,h.get? b=some o/\∀v,o.data≠.cell v
 keep:∀i h h',tn i h->(∀b∈fp,∀o,h.get? b=some o->h'.get? b=some o)->tn i h'
 item:∀(X:Cx),X.prog=P->X.w=w->X.K=K->X.calm=true->∀(i:Nat) (pins:List (Addr×Obj)) (s:Ab) (σ:St) (H:Hp) (E:Value->Ab->Prop),Inv X pins σ H s->(∀b∈fp,FpOk X pins H b)->tn i s.heap->J.go i H ->
  Au (AA P w) X.A (pyNext (.ref it)) (λr s1=>∃u,r=some u /\
   Au (AA P w) X.A (Du tg (.ref it) u) (λ_ s2=>∃x H',Inv X pins σ H' s2/\RelV x u/\J.yld i H x H'/\tn (i+1) s2.heap/\∀b∈fp,H' b=none) E s1) E s
 done:∀(X:Cx),X.prog=P->X.w=w->X.K=K->X.calm=true->∀(i:Nat) (pins:List (Addr×Obj)) (s:Ab) (σ:St) (H:Hp) (E:Value->Ab->Prop),Inv X pins σ H s->(∀b∈fp,FpOk X pins H b)->tn i s.heap->J.stop i H ->
  Au (AA P w) X.A (pyNext (.ref it)) (λr s1=>r=none/\Inv X pins σ H s1) E s
 self:∀(A:AQ) (i:Nat) (s:Ab) (Q:Value->Ab->Prop) (E:Value->Ab->Prop),tn i s.heap->Q (.ref it) s->Au (AA P w) A (pyIter (.ref it)) Q E s
noncomputable abbrev TI:=St->Hp->(It->Hp->Prop)->Prop
noncomputable def PIE(X:Cx)(pins:List (Addr×Obj))(σ:St)(tg:Expr)(R:It->Hp->Prop)(itv:Value)(s2:Ab):Prop :=
 ∃(it:Addr) (fp:List Addr) (tn:Nat->Heap->Prop) (J:It) (H':Hp),itv=.ref it/\Inv X pins σ H' s2/\Turn X.prog X.w X.K tg J fp it tn/\tn 0 s2.heap/\(∀b∈fp,FpOk X pins H' b)/\R J H'
noncomputable def PI(X:Cx)(tg iter:Expr)(wi:TI):Prop :=
 ∀(pins:List (Addr×Obj)) (s:Ab) (σ:St) (H:Hp) (R:It->Hp->Prop),Inv X pins σ H s->wi σ H R ->
  Au (AA X.prog X.w) X.A (eval iter X.env) (λv s1=>Au (AA X.prog X.w) X.A (pyIter v) (PIE X pins σ tg R) X.xe s1) X.xe s
theorem go_of {M : Model}{A : AQ}{E : Value → Ab → Prop}{s : Ab}{tg : Expr}{it : Addr}{u : Value}{o : Obj}{n : String}{vs : Array Value}{Q : Unit → Ab → Prop}(ho : s.heap.get? it = some o) (hc : o.cls = .type n) (hd : o.data = .fields vs)
    (hn:["enumerate","zip","dict_itemiterator","dict_reverseitemiterator","odict_iterator","itertools.zip_longest","itertools.pairwise"].contains n=false) (hQ:Q () s):Au M A (Du tg (.ref it) u) Q E s:=by
  unfold Du
  cases tg <;> first
    | exact An hQ
    | (cases u <;> first
        | exact An hQ
        | (refine Ad (wpAny_load ho ?_)
           rw[hc,hd]
           show Au M A (if (["enumerate","zip","dict_itemiterator","dict_reverseitemiterator","odict_iterator","itertools.zip_longest","itertools.pairwise"].contains n && vs[0]? == some (rawInt _))=true then _ else _) Q E s
           rw[if_neg (by intro h;rw[hn,Bool.false_and] at h;cases h)]
           exact An hQ))
noncomputable def Itl(K:W.Frag)(a:Addr):It :=
 ⟨λi H=>∃xs x,SqL K H a xs/\xs[i]?=some x,λi H x H'=>H'=H/\∀xs,SqL K H a xs->xs[i]?=some x,λi H=>∃xs,SqL K H a xs/\xs.length<=i⟩
noncomputable def Itt(K:W.Frag)(a:Addr):It :=
 ⟨λi H=>∃xs x,SqT K H a xs/\xs[i]?=some x,λi H x H'=>H'=H/\∀xs,SqT K H a xs->xs[i]?=some x,λi H=>∃xs,SqT K H a xs/\xs.length<=i⟩
noncomputable def Itr(lo:Int)(n:Nat):It:=⟨λi _=>i<n,λi H x H'=>H'=H/\x=.int (lo+i),λi _=>n<=i⟩
theorem ziC{P:AF}{w:A4}{K:W.Frag}{tg:Expr}(a it:Addr):Turn P w K tg (Itl K a) [it] it (λi h=>h.IsListIter it a i) where
 mem:=by simp
 obj:=λi h st b hb=>by
  have e:b=it:=by simpa using hb
  subst e;obtain⟨o,e,c,d⟩:=st;exact⟨o,e,λv z=>by rw[d]at z;cases z⟩
 keep:=λi h h' st k=>st.at λo e=>k it (by simp) o e
 item:=by
  intro X hP hw hK hc i pins s σ H E I hf st hg;subst hP hw hK;obtain⟨xs,x,hq,hx⟩:=hg;obtain⟨its,rv,p,hz⟩:=I.list hq;obtain⟨u,hu,ru⟩:=rv.get hx;obtain⟨f0,f1,f2,f3,f4,f5⟩:=hf it (by simp);refine wpAny_pyNext_list_item st p.isList (x:=u) (by simpa using hu) λh' st' sb=>?_
  have I1:Inv X pins σ H { s with heap:=h' }:=I.turned (t':=s.toks) (λb o hb e=>(sb.2 b hb).trans e) f0 f1 f3 f4 f5;obtain⟨o,e,c,d⟩:=id st';exact⟨u,rfl,go_of (s:={ s with heap:=h' }) e c d (by decide) ⟨x,H,I1,ru,⟨rfl,λys hy=>by rw[I.list_inj hy hq];exact hx⟩,st',λb hb=>(hf b hb).1⟩⟩
 done:=by intro X hP hw hK hc i pins s σ H E I hf st hg;subst hP hw hK;obtain⟨xs,hq,hx⟩:=hg;obtain⟨its,rv,p,hz⟩:=I.list hq;obtain⟨f0,f1,f2,f3,f4,f5⟩:=hf it (by simp);have hl:=rv.length;exact wpAny_pyNext_list_end (I.ok.hd hc) st p.isList (by simp;lia) λh' eb=>⟨rfl,I.turned (t':=s.toks) (λb o hb e=>eb b o hb e) f0 f1 f3 f4 f5⟩
 self:=λ_ _ _ _ _ st h=>wpAny_pyIter_listiter st h
theorem zh4{P:AF}{w:A4}{K:W.Frag}{tg:Expr}(a it:Addr):Turn P w K tg (Itt K a) [it] it (λi h=>h.IsTupleIter it a i) where
 mem:=by simp
 obj:=λi h st b hb=>by
  have e:b=it:=by simpa using hb
  subst e;obtain⟨o,e,c,d⟩:=st;exact⟨o,e,λv z=>by rw[d]at z;cases z⟩
 keep:=λi h h' st k=>st.at λo e=>k it (by simp) o e
 item:=by
  intro X hP hw hK hc i pins s σ H E I hf st hg;subst hP hw hK;obtain⟨xs,x,hq,hx⟩:=hg;obtain⟨its,rv,p,hz⟩:=I.tuple hq;obtain⟨u,hu,ru⟩:=rv.get hx;obtain⟨f0,f1,f2,f3,f4,f5⟩:=hf it (by simp);refine wpAny_pyNext_tuple_item st (show s.heap.IsTuple a its.toArray from p) (x:=u) (by simpa using hu) λh' st' sb=>?_
  have I1:Inv X pins σ H { s with heap:=h' }:=I.turned (t':=s.toks) (λb o hb e=>(sb.2 b hb).trans e) f0 f1 f3 f4 f5;obtain⟨o,e,c,d⟩:=id st';exact⟨u,rfl,go_of (s:={ s with heap:=h' }) e c d (by decide) ⟨x,H,I1,ru,⟨rfl,λys hy=>by rw[I.tuple_inj hy hq];exact hx⟩,st',λb hb=>(hf b hb).1⟩⟩
 done:=by intro X hP hw hK hc i pins s σ H E I hf st hg;subst hP hw hK;obtain⟨xs,hq,hx⟩:=hg;obtain⟨its,rv,p,hz⟩:=I.tuple hq;obtain⟨f0,f1,f2,f3,f4,f5⟩:=hf it (by simp);have hl:=rv.length;exact wpAny_pyNext_tuple_end (I.ok.hd hc) st (show s.heap.IsTuple a its.toArray from p) (by simp;lia) λh' eb=>⟨rfl,I.turned (t':=s.toks) (λb o hb e=>eb b o hb e) f0 f1 f3 f4 f5⟩
 self:=λ_ _ _ _ _ st h=>wpAny_pyIter_tupleiter st h
theorem zh5{P:AF}{w:A4}{K:W.Frag}{tg:Expr}(it:Addr)(lo:Int)(n:Nat):Turn P w K tg (Itr lo n) [it] it (λi h=>IsRangeIter h it (lo+(i:Nat)*1) ((n:Int)-(i:Nat)) 1) where
 mem:=by simp
 obj:=λi h st b hb=>by
  have e:b=it:=by simpa using hb
  subst e
  exact⟨_,st,λv z=>by
   have z':Data.fields _=Data.cell v:=z
   cases z'⟩
 keep:=λi h h' st k=>k it (by simp) _ st
 item:=by
  intro X hP hw hK hc i pins s σ H E I hf st hg;subst hP hw hK;obtain⟨f0,f1,f2,f3,f4,f5⟩:=hf it (by simp);have W:=Walks.range (prog:=X.prog) (w:=X.w) (I.ok.hd hc) it lo 1 n;refine W.item i s _ _ hg st λv h' tk hv st' kk=>?_
  obtain⟨t,rfl⟩:=hv;have I1:Inv X pins σ H { s with heap:=h',toks:=tk }:=I.turned (λb o hb e=>kk b o (by simpa using hb) e) f0 f1 f3 f4 f5;refine⟨_,rfl,go_of (s:={ s with heap:=h',toks:=tk }) (n:="range_iterator") st' rfl rfl (by decide) ⟨.int (lo+i),H,I1,⟨t,?_⟩,⟨rfl,rfl⟩,st',λb hb=>(hf b hb).1⟩⟩;rw[Int.mul_one]
 done:=by intro X hP hw hK hc i pins s σ H E I hf st hg;subst hP hw hK;obtain⟨f0,f1,f2,f3,f4,f5⟩:=hf it (by simp);exact wpAny_pyNext_range_end (I.ok.hd hc) st (by have:n<=i:=hg;lia) λh' eb=>⟨rfl,I.turned (t':=s.toks) (λb o hb e=>eb b o hb e) f0 f1 f3 f4 f5⟩
 self:=λ_ _ _ _ _ st h=>wpAny_pyIter_rangeiter st h
section
variable {X:Cx}{tg:Expr}
noncomputable def iList(K:W.Frag)(tl:TE):TI:=λσ H R=>tl σ H λx H1=>∃a,x=.ref a/\(∃xs,SqL K H1 a xs)/\R (Itl K a) H1
noncomputable def iTup(K:W.Frag)(tl:TE):TI:=λσ H R=>tl σ H λx H1=>∃a,x=.ref a/\(∃xs,SqT K H1 a xs)/\R (Itt K a) H1
theorem zaS{l:Expr}{tl:TE}(hl:PE X l tl):PI X tg l (iList X.K tl):=by
 intro pins s σ H R I h;refine thn (hl pins s σ H _ I h) λv s1 ⟨x,H1,I1,r1,q1⟩=>?_
 obtain⟨a,e,⟨xs,hq⟩,q⟩:=q1;subst e
 cases r1
 obtain⟨its,rv,p,hz⟩:=I1.list hq;refine wpAny_pyIter_list p.isList ?_
 refine⟨s1.heap.objs.size,[s1.heap.objs.size],_,_,H1,rfl,I1.kept (t':=s1.toks) λb o e=>Al _ e,ziC a _,⟨_,AU _ rfl,rfl,rfl⟩,λb hb=>?_,q⟩;have e:b=s1.heap.objs.size:=by simpa using hb
 subst e;exact I1.fpOk (Ai _) (I1.hok.fresh (Ai _))
theorem zdX{l:Expr}{tl:TE}(hl:PE X l tl):PI X tg l (iTup X.K tl):=by
 intro pins s σ H R I h;refine thn (hl pins s σ H _ I h) λv s1 ⟨x,H1,I1,r1,q1⟩=>?_
 obtain⟨a,e,⟨xs,hq⟩,q⟩:=q1;subst e
 cases r1
 obtain⟨its,rv,p,hz⟩:=I1.tuple hq;refine wpAny_pyIter_tuple (show s1.heap.IsTuple a its.toArray from p) ?_
 refine⟨s1.heap.objs.size,[s1.heap.objs.size],_,_,H1,rfl,I1.kept (t':=s1.toks) λb o e=>Al _ e,zh4 a _,⟨_,AU _ rfl,rfl,rfl⟩,λb hb=>?_,q⟩;have e:b=s1.heap.objs.size:=by simpa using hb
 subst e;exact I1.fpOk (Ai _) (I1.hok.fresh (Ai _))
theorem zhB{pins:List (Addr × Obj)}{σ : St}{H:Hp}{s:Ab}{R:It -> Hp -> Prop}{E:Value -> Ab -> Prop}{lo hi:Int}{t u v:Tok}{tk:Nat}(I:Inv X pins σ H s)(h1 : -(2 ^ 62) <= lo)(h2:lo < 2 ^ 62)(h3 : -(2 ^ 62) <= hi)(h4:hi < 2 ^ 62)
  (q:R (Itr lo (hi-lo).toNat) H):Au (AA X.prog X.w) X.A (pyIter (.ref s.heap.objs.size)) (PIE X pins σ tg R) E { s with heap:=s.heap.push { cls:=.type "range",data:=.fields #[.int lo t,.int hi u,.int 1 v] },toks:=tk }:=by
 refine wpAny_pyIter_range (IsRange.new ..) (small_one h1 h2 h3 h4) ?_
 have I1:Inv X pins σ H { s with heap:=s.heap.push { cls:=.type "range",data:=.fields #[.int lo t,.int hi u,.int 1 v] },toks:=tk }:=I.kept λb o e=>Al _ e
 refine⟨(s.heap.push { cls:=.type "range",data:=.fields #[.int lo t,.int hi u,.int 1 v] }).objs.size,[(s.heap.push { cls:=.type "range",data:=.fields #[.int lo t,.int hi u,.int 1 v] }).objs.size],_,_,H,rfl,
  I1.kept (t':=tk) λb o e=>Al _ e,zh5 _ lo (hi-lo).toNat,?_,λb hb=>?_,q⟩
 .have e1:lo+((0:Nat):Int)*1=lo:=by simp
  have e2:(((hi-lo).toNat:Nat):Int)-((0:Nat):Int)=Builtin.Range.rangeSize lo hi 1:=by rw[rangeSize_one];split <;> lia
  show IsRangeIter _ _ (lo+((0:Nat):Int)*1) ((((hi-lo).toNat:Nat):Int)-((0:Nat):Int)) 1;rw[e1,e2];exact AU _ rfl
 .have e:b=(s.heap.push { cls:=.type "range",data:=.fields #[.int lo t,.int hi u,.int 1 v] }).objs.size:=by simpa using hb
  subst e;exact I1.fpOk (Ai _) (I1.hok.fresh (Ai _))
noncomputable def iRng1(ta:TA):TI:=λσ H R=>ta σ H λvs H1=>∃j:Int,vs=[.int j]/\-(2 ^ 62)<=j/\j<2 ^ 62/\R (Itr 0 j.toNat) H1
noncomputable def iRng2(ta:TA):TI:=λσ H R=>ta σ H λvs H1=>∃i j:Int,vs=[.int i,.int j]/\(-(2 ^ 62)<=i/\i<2 ^ 62/\-(2 ^ 62)<=j/\j<2 ^ 62)/\R (Itr i (j-i).toNat) H1
theorem zb0 {a:Expr}{ta:TA}{p pos:Pos}(hg:Gl X "range") (hm:X.mg "range" = none) (ha:PA X [a] ta) (hs:Bl [a] X.env=[(false,eval a X.env)]:=by rfl):PI X tg (.Call (.Name "range" p) [a] [] pos) (iRng1 ta):=by
 intro pins s σ H R I h;refine Call_ (zd8 I hg hm boot_range (Da (thn (ha pos pins s σ H _ I h) λus s1 ⟨vs,H1,I1,r1,q1⟩=>?_) hs rfl));obtain⟨j,e,q1,q2,q⟩:=q1;subst e
 cases r1 with
 |cons r rr =>
  cases rr
  obtain⟨t,rfl⟩:=r;exact call_range_1 (zhB I1 (by lia) (by lia) q1 q2 (by simpa using q))
theorem zja {a b:Expr}{ta:TA}{p pos:Pos}(hg:Gl X "range") (hm:X.mg "range" = none) (ha:PA X [a, b] ta) (hs:Bl [a, b] X.env = [(false, eval a X.env), (false, eval b X.env)] := by rfl) (hs2:Bl [b] X.env = [(false, eval b X.env)] := by rfl) :
  PI X tg (.Call (.Name "range" p) [a,b] [] pos) (iRng2 ta):=by
 intro pins s σ H R I h;refine Call_ (zd8 I hg hm boot_range (Da (thn (ha pos pins s σ H _ I h) λus s1 ⟨vs,H1,I1,r1,q1⟩=>?_) (by rw[hs,hs2]) (by rw[hs2];rfl)));obtain⟨i,j,e,⟨q1,q2,q3,q4⟩,q⟩:=q1;subst e
 cases r1 with
 |cons r rr =>
  cases rr with
  |cons r' rr =>
   cases rr
   obtain⟨t,rfl⟩:=r;obtain⟨t',rfl⟩:=r';exact call_range_2 (zhB I1 q1 q2 q3 q4 q)
noncomputable def tFor(wi:TI)(g:TG)(tb:TS):TS:=λD σ H=>wi σ H λJ H1=>∃W:Nat->Nat->St->Hp->Prop,(∃m,W 0 m σ H1)/\∀i m σ H,W i m σ H ->
 (J.stop i H/\D.nx σ H)∨(J.go i H/\∃N:St->Hp->Prop,(∀ σ' H',N σ' H'->∃m',m'<m/\W (i+1) m' σ' H')/\∀x H',J.yld i H x H'->g x σ H' λσ2 H2=>tb { D with nx:=N,ct:=N,bk:=D.nx } σ2 H2)
noncomputable def zdn(fp:List Addr)(h:Heap):List (Addr×Obj):=fp.filterMap λb=>(h.get? b).map λo=>(b,o)
theorem za1{fp:List Addr}{h:Heap}{b:Addr}{o:Obj}(hb:b∈fp)(e:h.get? b=some o):(b,o)∈zdn fp h:=List.mem_filterMap.mpr ⟨b,hb,by rw[e];rfl⟩
theorem zji{fp:List Addr}{h:Heap}{p:Addr×Obj}(hp:p∈zdn fp h):p.1∈fp/\h.get? p.1=some p.2:=by
 obtain⟨b,hb,e⟩:=List.mem_filterMap.mp hp
 cases q:h.get? b with
 |none=>rw[q]at e;cases e
 |some o =>
  rw[q]at e;have e':(b,o)=p:=AW e;subst e';exact⟨hb,q⟩
theorem Inv.pinned{pins:List (Addr×Obj)}{σ:St}{H:Hp}{s:Ab}{fp:List Addr}(I:Inv X pins σ H s)(hf:∀b∈fp,FpOk X pins H b)(ho:∀b∈fp,∃o,s.heap.get? b=some o/\∀v,o.data≠.cell v):Inv X (pins++zdn fp s.heap) σ H s :=
 I.pins_of λp hp=>(Aj.mp hp).elim (λz=>I.pin p (Ak _ z)) λz=>by obtain⟨hb,e⟩:=zji z;obtain⟨f0,f1,f2,_⟩:=hf p.1 hb;obtain⟨o,e',d⟩:=ho p.1 hb;rw[e]at e';cases e';exact⟨e,f0,f1,f2,d⟩
theorem Inv.unpinned{pins pl:List (Addr×Obj)}{σ:St}{H:Hp}{s:Ab}(I:Inv X (pins++pl) σ H s):Inv X pins σ H s:=I.pins_of λp hp=>I.pin p (Ak _ (Bg _ hp))
theorem zbI{iter:Expr}{body:List Stmt}{wi:TI}{g:TG}{tb:TS}{pos:Pos}(hp:PassesOwn (AA X.prog X.w) X.A X.env X.xe)(hc:X.calm=true)(hi:PI X tg iter wi)(hg:PG X tg g)(hb:PSs X body tb)
  (hs:∀x,Bz iter X.env x=pure x:=by intro _;rfl):PS X (.For tg iter body [] pos) (tFor wi g tb):=by
 intro pins s σ H D I h;refine wpAny_For (thn (hi pins s σ H _ I h) λv s1 h1=>thn h1 λitv s2 h2=>?_) hs;obtain⟨it,fp,tn,J,H2,e,I2,T,st2,f2,W,⟨m0,w0⟩,turn⟩:=h2;subst e;have stat:∀{H':Hp},(∀b∈fp,H' b=none)->∀b∈fp,FpOk X pins H' b:=λhn b hb=>⟨hn b hb,(f2 b hb).2⟩
 refine codeAny_forLoop_any (λn s'=>∃i σ' H',Inv X pins σ' H' s'/\tn i s'.heap/\(∀b∈fp,H' b=none)/\W i n σ' H') ?_ m0 ⟨0,σ,H2,I2,st2,λb hb=>(f2 b hb).1,w0⟩;rintro n s3 ⟨i,σ3,H3,I3,st3,fr3,w3⟩;rcases turn i n σ3 H3 w3 with⟨stop,qn⟩ |⟨go,N,hN,step⟩
 .refine CC hp (thn (T.done X rfl rfl rfl hc i pins s3 σ3 H3 X.xe I3 (stat fr3) st3 stop) λr s4 ⟨hr,I4⟩=>?_);subst hr;exact wpAny_execs_nil ⟨σ3,H3,I4,qn⟩
 .refine CC hp (thn (T.item X rfl rfl rfl hc i pins s3 σ3 H3 X.xe I3 (stat fr3) st3 go) λr s4 ⟨u,hr,h4⟩=>?_);subst hr;refine CC hp (thn h4 λ_ s5 ⟨x,H5,I5,r5,y5,st5,fr5⟩=>?_);have I5':=I5.pinned (stat fr5) (T.obj _ _ st5);refine CC hp (thn (hg _ s5 σ3 H5 x u _ I5' r5 (step x H5 y5)) λ_ s6 ⟨σ6,H6,I6,q6⟩=>?_);refine CC hp (thn (hb _ s6 σ6 H6 _ I6 q6) λf s7 q7=>?_)
  have again:∀{σ7:St} {H7:Hp},Inv X (pins++zdn fp s5.heap) σ7 H7 s7->N σ7 H7->∃m,m<n/\∃i σ' H',Inv X pins σ' H' s7/\tn i s7.heap/\(∀b∈fp,H' b=none)/\W i m σ' H':=λ{σ7 H7} I7 n7=>by obtain⟨m',hm,w7⟩:=hN σ7 H7 n7;refine⟨m',hm,i+1,σ7,H7,I7.unpinned,T.keep _ _ _ st5 λb hb o e=>(I7.pin (b,o) (Ak _ (Ak _ (za1 hb e)))).1,λb hb=>?_,w7⟩;obtain⟨o,e,d⟩:=T.obj _ _ st5 b hb;exact (I7.pin (b,o) (Ak _ (Ak _ (za1 hb e)))).2.1
  cases f with
  |next=>obtain⟨σ7,H7,I7,n7⟩:=q7;exact again I7 n7
  |cont=>obtain⟨σ7,H7,I7,n7⟩:=q7;exact again I7 n7
  |brk=>obtain⟨σ7,H7,I7,q7⟩:=q7;exact⟨σ7,H7,I7.unpinned,q7⟩
  |ret v=>obtain⟨x7,σ7,H7,I7,r7,q7⟩:=q7;exact⟨x7,σ7,H7,I7.unpinned,r7,q7⟩
end
theorem zaH{K:W.Frag}{a:Addr}{xs:List V}{g:TG}{tb:TS}{D:Ends}{σ : St}{H:Hp}(Pv:Nat -> St -> Hp -> Prop)(h0:Pv 0 σ H)(hl:∀i σ H, i <= xs.length -> Pv i σ H -> SqL K H a xs)
  (hs:∀i x σ H,xs[i]?=some x->Pv i σ H->g x σ H λσ2 H2=>tb { D with nx:=Pv (i+1),ct:=Pv (i+1),bk:=D.nx } σ2 H2) (hd:∀ σ H,Pv xs.length σ H->D.nx σ H) :
  ∃W:Nat->Nat->St->Hp->Prop,(∃m,W 0 m σ H)/\∀i m σ H,W i m σ H ->
   ((Itl K a).stop i H/\D.nx σ H)∨((Itl K a).go i H/\∃N:St->Hp->Prop,(∀ σ' H',N σ' H'->∃m',m'<m/\W (i+1) m' σ' H')/\∀x H',(Itl K a).yld i H x H'->g x σ H' λσ2 H2=>tb { D with nx:=N,ct:=N,bk:=D.nx } σ2 H2):=by
 refine⟨λi m σ H=>m=xs.length-i/\i<=xs.length/\Pv i σ H,⟨xs.length,by simp,Be _,h0⟩,?_⟩;rintro i m σ H ⟨rfl,hi,p⟩;have q:=hl i σ H hi p
 by_cases hlt:i<xs.length
 .refine .inr ⟨⟨xs,xs[i],q,by simp[hlt]⟩,Pv (i+1),λσ' H' p'=>⟨xs.length-(i+1),by lia,rfl,hlt,p'⟩,λx H' y=>?_⟩;obtain⟨e,y⟩:=y;subst e;exact hs i x σ _ (y xs q) p
 .have e:i=xs.length:=by lia
  subst e;exact .inl ⟨⟨xs,q,Ai _⟩,hd σ H p⟩
theorem zdh{K:W.Frag}{a:Addr}{xs:List V}{g:TG}{tb:TS}{D:Ends}{σ : St}{H:Hp}(Pv:Nat -> St -> Hp -> Prop)(h0:Pv 0 σ H)(hl:∀i σ H, i <= xs.length -> Pv i σ H -> SqT K H a xs)
  (hs:∀i x σ H,xs[i]?=some x->Pv i σ H->g x σ H λσ2 H2=>tb { D with nx:=Pv (i+1),ct:=Pv (i+1),bk:=D.nx } σ2 H2) (hd:∀ σ H,Pv xs.length σ H->D.nx σ H) :
  ∃W:Nat->Nat->St->Hp->Prop,(∃m,W 0 m σ H)/\∀i m σ H,W i m σ H ->
   ((Itt K a).stop i H/\D.nx σ H)∨((Itt K a).go i H/\∃N:St->Hp->Prop,(∀ σ' H',N σ' H'->∃m',m'<m/\W (i+1) m' σ' H')/\∀x H',(Itt K a).yld i H x H'->g x σ H' λσ2 H2=>tb { D with nx:=N,ct:=N,bk:=D.nx } σ2 H2):=by
 refine⟨λi m σ H=>m=xs.length-i/\i<=xs.length/\Pv i σ H,⟨xs.length,by simp,Be _,h0⟩,?_⟩;rintro i m σ H ⟨rfl,hi,p⟩;have q:=hl i σ H hi p
 by_cases hlt:i<xs.length
 .refine .inr ⟨⟨xs,xs[i],q,by simp[hlt]⟩,Pv (i+1),λσ' H' p'=>⟨xs.length-(i+1),by lia,rfl,hlt,p'⟩,λx H' y=>?_⟩;obtain⟨e,y⟩:=y;subst e;exact hs i x σ _ (y xs q) p
 .have e:i=xs.length:=by lia
  subst e;exact .inl ⟨⟨xs,q,Ai _⟩,hd σ H p⟩
theorem zbN{lo:Int}{n:Nat}{g:TG}{tb:TS}{D:Ends}{σ : St}{H:Hp}(Pv:Nat -> St -> Hp -> Prop)(h0:Pv 0 σ H)
  (hs:∀i σ H,i<n->Pv i σ H->g (.int (lo+i)) σ H λσ2 H2=>tb { D with nx:=Pv (i+1),ct:=Pv (i+1),bk:=D.nx } σ2 H2) (hd:∀ σ H,Pv n σ H->D.nx σ H) :
  ∃W:Nat->Nat->St->Hp->Prop,(∃m,W 0 m σ H)/\∀i m σ H,W i m σ H ->
   ((Itr lo n).stop i H/\D.nx σ H)∨((Itr lo n).go i H/\∃N:St->Hp->Prop,(∀ σ' H',N σ' H'->∃m',m'<m/\W (i+1) m' σ' H')/\∀x H',(Itr lo n).yld i H x H'->g x σ H' λσ2 H2=>tb { D with nx:=N,ct:=N,bk:=D.nx } σ2 H2):=by
 refine⟨λi m σ H=>m=n-i/\i<=n/\Pv i σ H,⟨n,by simp,Be _,h0⟩,?_⟩;rintro i m σ H ⟨rfl,hi,p⟩
 by_cases hlt:i<n
 .refine .inr ⟨hlt,Pv (i+1),λσ' H' p'=>⟨n-(i+1),by lia,rfl,hlt,p'⟩,λx H' y=>?_⟩;obtain⟨e,y⟩:=y;subst e y;exact hs i σ _ hlt p
 .have e:i=n:=by lia
  subst e;exact .inl ⟨Ai _,hd σ H p⟩
theorem zjY{c:TT}{tb:TS}{D:Ends}{σ : St}{H:Hp}(Pv:St -> Hp -> Prop)(μ : St -> Hp -> Nat)(h0:Pv σ H)
  (hs:∀ σ H,Pv σ H->c σ H λb H1=>if b=true then tb { D with nx:=λσ' H'=>Pv σ' H'/\μ σ' H'<μ σ H,ct:=λσ' H'=>Pv σ' H'/\μ σ' H'<μ σ H,bk:=D.nx } σ H1 else D.nx σ H1)
  (mono:∀ σ H Q Q',(∀b H1,Q b H1->Q' b H1)->c σ H Q->c σ H Q'):zkB c tb D σ H:=by
 refine⟨λm σ H=>m=μ σ H/\Pv σ H,⟨_,rfl,h0⟩,?_⟩;rintro m σ H ⟨rfl,p⟩;refine mono σ H _ _ (λb H1 q=>?_) (hs σ H p)
 cases b with
 |true=>exact⟨_,λσ' H' ⟨p',l⟩=>⟨_,l,rfl,p'⟩,q⟩
 |false=>exact q
noncomputable abbrev R2:=V->V->Hp->VK->Prop
noncomputable def OpR(X:Cx)(f:Value->Value->Sem Value)(r:R2):Prop :=
 ∀(pins:List (Addr×Obj)) (s:Ab) (σ:St) (H:Hp) (x y:V) (v u:Value) (Q:VK),Inv X pins σ H s->RelV x v->RelV y u->r x y H Q ->
  Au (AA X.prog X.w) X.A (f v u) (EP X pins σ Q) X.xe s
noncomputable def UnR(X:Cx)(f:Value->Sem Value)(r:V->Hp->VK->Prop):Prop :=
 ∀(pins:List (Addr×Obj)) (s:Ab) (σ:St) (H:Hp) (x:V) (v:Value) (Q:VK),Inv X pins σ H s->RelV x v->r x H Q ->
  Au (AA X.prog X.w) X.A (f v) (EP X pins σ Q) X.xe s
noncomputable def CallR(X:Cx)(f:Value)(r:List V->Hp->VK->Prop):Prop :=
 ∀(pins:List (Addr×Obj)) (s:Ab) (σ:St) (H:Hp) (xs:List V) (us:List Value) (Q:VK),Inv X pins σ H s->Vals xs us->r xs H Q ->
  Au (AA X.prog X.w) X.A (call f us) (EP X pins σ Q) X.xe s
noncomputable def TruR(X:Cx)(r:V->Hp->(Bool->Hp->Prop)->Prop):Prop :=
 ∀(pins:List (Addr×Obj)) (s:Ab) (σ:St) (H:Hp) (x:V) (v:Value) (Q:Bool->Hp->Prop),Inv X pins σ H s->RelV x v->r x H Q ->
  Au (AA X.prog X.w) X.A (truthy v) (TP X pins σ Q) X.xe s
noncomputable def tOp(r:R2)(ta tb:TE):TE:=λσ H Q=>ta σ H λx H1=>tb σ H1 λy H2=>r x y H2 Q
noncomputable def tUn(r:V->Hp->VK->Prop)(ta:TE):TE:=λσ H Q=>ta σ H λx H1=>r x H1 Q
noncomputable def rI(C:Int->Int->Prop)(g:Int->Int->V):R2:=λx y H Q=>∃i j,x=.int i/\y=.int j/\C i j/\Q (g i j) H
noncomputable def rI0(g:Int->Int->V):R2:=λx y H Q=>∃i j,x=.int i/\y=.int j/\Q (g i j) H
noncomputable def rU(g:Int->V):V->Hp->VK->Prop:=λx H Q=>∃i,x=.int i/\Q (g i) H
section
variable {X:Cx}{a b c:Expr}{ta tb tc:TE}{pos:Pos}
theorem binT(ha:PE X a ta)(hb:PE X b tb){pins:List (Addr × Obj)}{s:Ab}{σ : St}{H:Hp}{R:V -> V -> Hp -> Prop}(I:Inv X pins σ H s)
  (h:ta σ H λx H1=>tb σ H1 λy H2=>R x y H2) {Q:Value->Ab->Prop} {f:Value->Value->Sem Value}
  (hf:∀v u s2 x y H2,Inv X pins σ H2 s2->RelV x v->RelV y u->R x y H2->Au (AA X.prog X.w) X.A (f v u) Q X.xe s2) :
  Au (AA X.prog X.w) X.A (eval a X.env) (λv s₁=>Au (AA X.prog X.w) X.A (eval b X.env) (λu s₂=>Au (AA X.prog X.w) X.A (f v u) Q X.xe s₂) X.xe s₁) X.xe s:=by
 refine thn (ha pins s σ H _ I h) λv s1 ⟨x,H1,I1,r1,q1⟩=>?_
 refine thn (hb pins s1 σ H1 _ I1 q1) λu s2 ⟨y,H2,I2,r2,q2⟩=>?_
 exact hf v u s2 x y H2 I2 r1 r2 q2
theorem pe_op{op:Operator}{r:R2}(ho:OpR X (CD op) r)(ha:PE X a ta)(hb:PE X b tb):PE X (.BinOp a op b pos) (tOp r ta tb):=by intro pins s σ H Q I h;exact wpAny_BinOp (binT ha hb I h λv u s2 x y H2 I2 rx ry q=>ho pins s2 σ H2 x y v u Q I2 rx ry q)
theorem pe_un{op:UnaryOp}{r:V->Hp->VK->Prop}(ho:UnR X (unaryOp op) r)(ha:PE X a ta):PE X (.UnaryOp op a pos) (tUn r ta):=by intro pins s σ H Q I h;exact UnaryOp_ (thn (ha pins s σ H _ I h) λv s1 ⟨x,H1,I1,r1,q1⟩=>ho pins s1 σ H1 x v Q I1 r1 q1)
theorem opI{f:Value -> Value -> Sem Value}{C:Int -> Int -> Prop}{g:Int -> Int -> Int}
  (rule:∀(i j:Int) (t u:Tok) (s:Ab) (Q:Value->Ab->Prop) (E:Value->Ab->Prop),C i j->Q (.int (g i j) s.toks) { s with toks:=s.toks+1 }->Au (AA X.prog X.w) X.A (f (.int i t) (.int j u)) Q E s) :
  OpR X f (rI C λi j=>.int (g i j)):=by
 intro pins s σ H x y v u Q I rx ry h;obtain⟨i,j,rfl,rfl,hc,q⟩:=h;obtain⟨t,rfl⟩:=rx;obtain⟨t',rfl⟩:=ry;exact rule i j t t' s _ _ hc ⟨.int (g i j),H,I.tok _,⟨_,rfl⟩,q⟩
theorem opI0{f:Value -> Value -> Sem Value}{g:Int -> Int -> Int}
  (rule:∀(i j:Int) (t u:Tok) (s:Ab) (Q:Value->Ab->Prop) (E:Value->Ab->Prop),Q (.int (g i j) s.toks) { s with toks:=s.toks+1 }->Au (AA X.prog X.w) X.A (f (.int i t) (.int j u)) Q E s) :
  OpR X f (rI0 λi j=>.int (g i j)):=by
 intro pins s σ H x y v u Q I rx ry h;obtain⟨i,j,rfl,rfl,q⟩:=h;obtain⟨t,rfl⟩:=rx;obtain⟨t',rfl⟩:=ry;exact rule i j t t' s _ _ ⟨.int (g i j),H,I.tok _,⟨_,rfl⟩,q⟩
theorem opB0{f:Value -> Value -> Sem Value}{g:Int -> Int -> Bool}
  (rule:∀(i j:Int) (t u:Tok) (s:Ab) (Q:Value->Ab->Prop) (E:Value->Ab->Prop),Q (.bool (g i j)) s->Au (AA X.prog X.w) X.A (f (.int i t) (.int j u)) Q E s) :
  OpR X f (rI0 λi j=>.bl (g i j)):=by
 intro pins s σ H x y v u Q I rx ry h;obtain⟨i,j,rfl,rfl,q⟩:=h;obtain⟨t,rfl⟩:=rx;obtain⟨t',rfl⟩:=ry;exact rule i j t t' s _ _ ⟨.bl (g i j),H,I,rfl,q⟩
noncomputable def CDiv(i j:Int):Prop:=0<j/\j<1073741824
noncomputable def CPow(i j:Int):Prop:=0<=j/\j<=1000000/\i.natAbs<2 ^ 64
noncomputable def CMul(i j:Int):Prop:=(-(2 ^ 64)<i/\i<2 ^ 64)∨(-(2 ^ 64)<j/\j<2 ^ 64)
theorem CMul.ok{i j:Int}(h:CMul i j):IntMulOk i j:=by
 rcases h with⟨h1,h2⟩ |⟨h1,h2⟩
 .exact .of_left (intBits_le_64 h1 h2)
 .exact .of_right (intBits_le_64 h1 h2)
theorem zaF:OpR X (CD .Add) (rI0 λi j=>.int (i+j)):=opI0 λ_ _ _ _ _ _ _ q=>add_int q
theorem zbi:OpR X (CD .Sub) (rI0 λi j=>.int (i-j)):=opI0 λ_ _ _ _ _ _ _ q=>sub_int q
theorem zbK:OpR X (CD .Mult) (rI CMul λi j=>.int (i*j)):=opI λ_ _ _ _ _ _ _ hc q=>mul_int q hc.ok
theorem zbU:OpR X (CD .FloorDiv) (rI CDiv λi j=>.int (i / j)):=opI λi j _ _ _ _ _ hc q=>by have h1:(0:Int)<j:=hc.1;have h2:j<1073741824:=hc.2;exact floordiv_int (by lia) (by rw[Int.fdiv_eq_ediv_of_nonneg i (by lia)];exact q) (.inl (PyProof.noPylong_small (by lia)))
theorem zaN:OpR X (CD .Mod) (rI (λ_ j=>0<j) λi j=>.int (i % j)):=opI λi j _ _ _ _ _ hc q=>by have h1:(0:Int)<j:=hc;exact mod_int' (by lia) (by rw[Int.fmod_eq_emod_of_nonneg i (by lia)];exact q)
theorem zeT:OpR X (CD .Pow) (rI CPow λi j=>.int (i ^ j.toNat)):=opI λ_ _ _ _ _ _ _ hc q=>pow_int_small hc.1 hc.2.1 hc.2.2 q
theorem unI{f:Value -> Sem Value}{g:Int -> Int}
  (rule:∀(i:Int) (t:Tok) (s:Ab) (Q:Value->Ab->Prop) (E:Value->Ab->Prop),Q (.int (g i) s.toks) { s with toks:=s.toks+1 }->Au (AA X.prog X.w) X.A (f (.int i t)) Q E s) :
  UnR X f (rU λi=>.int (g i)):=by
 intro pins s σ H x v Q I rx h;obtain⟨i,rfl,q⟩:=h;obtain⟨t,rfl⟩:=rx;exact rule i t s _ _ ⟨.int (g i),H,I.tok _,⟨_,rfl⟩,q⟩
theorem zeK:UnR X (unaryOp .USub) (rU λi=>.int (-i)):=unI λ_ _ _ _ _ q=>neg_int q
end
noncomputable def scal:V->V->Bool
 |.non,.non=>true |.non,.int _=>true |.int _,.non=>true |.non,.bl _=>true |.bl _,.non=>true |.non,.str _=>true |.str _,.non=>true
 |.int _,.int _=>true |.bl _,.bl _=>true |.str _,.str _=>true |.byt _,.byt _=>true
 |.int _,.str _=>true |.str _,.int _=>true |.bl _,.str _=>true |.str _,.bl _=>true
 |_,_=>false
noncomputable def rEq:R2:=λx y H Q=>scal x y=true/\Q (.bl (decide (x=y))) H
noncomputable def rNe:R2:=λx y H Q=>scal x y=true/\Q (.bl (!decide (x=y))) H
theorem zjJ{i j:Int}:decide (V.int i=V.int j)=(i == j):=by rw[C3];simp
theorem zk1{i j:Bool}:decide (V.bl i=V.bl j)=(i == j):=by rw[C3];simp
theorem zjI{i j:Str}:decide (V.str i=V.str j)=(i == j):=by rw[C3];simp
theorem zjK{i j:Array UInt8}:decide (V.byt i=V.byt j)=(i.toList == j.toList):=by
 rw[C3]
 cases i
 cases j
 simp
section
variable {X:Cx}{a b c:Expr}{ta tb tc:TE}{pos:Pos}
theorem zaJ{pins:List (Addr×Obj)}{σ:St}{H:Hp}{s:Ab}{Q:VK}{k k':Bool}(I:Inv X pins σ H s)(q:Q (.bl k) H)(e:k=k'):EP X pins σ Q (.bool k') s:=by subst e;exact⟨.bl k,H,I,rfl,q⟩
theorem op_eq:OpR X (Bu .Eq) rEq:=by
 intro pins s σ H x y v u Q I rx ry h;obtain⟨hs,q⟩:=h
 cases x with
 |non =>
  cases rx
  cases y with
  |non=>cases ry;exact PySem.EqNone.eq_none_none (zaJ I q (by simp))
  |bl j=>cases ry;exact PySem.EqNone.eq_none_bool (zaJ I q (by simp))
  |int j=>obtain⟨t',rfl⟩:=ry;exact PySem.EqNone.eq_none_int (zaJ I q (by simp))
  |str j=>obtain⟨t',rfl⟩:=ry;exact PySem.EqNone.eq_none_str (zaJ I q (by simp))
  |_=>exact absurd (show false=true from hs) Aw
 |bl i =>
  cases rx
  cases y with
  |non=>cases ry;exact PySem.EqNone.eq_bool_none (zaJ I q (by simp))
  |bl j=>cases ry;exact eq_bool (zaJ I q zk1)
  |str j=>obtain⟨t',rfl⟩:=ry;exact PySem.EqMixed.eq_bool_str (zaJ I q (by simp))
  |_=>exact absurd (show false=true from hs) Aw
 |int i =>
  obtain⟨t,rfl⟩:=rx
  cases y with
  |non=>cases ry;exact PySem.EqNone.eq_int_none (zaJ I q (by simp))
  |int j=>obtain⟨t',rfl⟩:=ry;exact eq_int (zaJ I q zjJ)
  |str j=>obtain⟨t',rfl⟩:=ry;exact PySem.EqMixed.eq_int_str (zaJ I q (by simp))
  |_=>exact absurd (show false=true from hs) Aw
 |str i =>
  obtain⟨t,rfl⟩:=rx
  cases y with
  |non=>cases ry;exact PySem.EqNone.eq_str_none (zaJ I q (by simp))
  |bl j=>cases ry;exact PySem.EqMixed.eq_str_bool (zaJ I q (by simp))
  |int j=>obtain⟨t',rfl⟩:=ry;exact PySem.EqMixed.eq_str_int (zaJ I q (by simp))
  |str j=>obtain⟨t',rfl⟩:=ry;exact eq_str (zaJ I q zjI)
  |_=>exact absurd (show false=true from hs) Aw
 |byt i =>
  obtain⟨t,rfl⟩:=rx
  cases y with
  |byt j=>obtain⟨t',rfl⟩:=ry;exact W.eq_bytes (zaJ I q zjK)
  |_=>exact absurd (show false=true from hs) Aw
 |_=>cases y <;> exact absurd (show false=true from hs) Aw
theorem op_ne:OpR X (Bu .NotEq) rNe:=by
 intro pins s σ H x y v u Q I rx ry h;obtain⟨hs,q⟩:=h
 cases x with
 |non =>
  cases rx
  cases y with
  |non=>cases ry;exact PySem.EqNone.ne_none_none (zaJ I q (by simp))
  |bl j=>cases ry;exact PySem.EqNone.ne_none_bool (zaJ I q (by simp))
  |int j=>obtain⟨t',rfl⟩:=ry;exact PySem.EqNone.ne_none_int (zaJ I q (by simp))
  |str j=>obtain⟨t',rfl⟩:=ry;exact PySem.EqNone.ne_none_str (zaJ I q (by simp))
  |_=>exact absurd (show false=true from hs) Aw
 |bl i =>
  cases rx
  cases y with
  |non=>cases ry;exact PySem.EqNone.ne_bool_none (zaJ I q (by simp))
  |bl j=>cases ry;exact ne_bool (zaJ I q (congrArg not zk1))
  |str j=>obtain⟨t',rfl⟩:=ry;exact PySem.EqMixed.ne_bool_str (zaJ I q (by simp))
  |_=>exact absurd (show false=true from hs) Aw
 |int i =>
  obtain⟨t,rfl⟩:=rx
  cases y with
  |non=>cases ry;exact PySem.EqNone.ne_int_none (zaJ I q (by simp))
  |int j=>obtain⟨t',rfl⟩:=ry;exact ne_int (zaJ I q (congrArg not zjJ))
  |str j=>obtain⟨t',rfl⟩:=ry;exact PySem.EqMixed.ne_int_str (zaJ I q (by simp))
  |_=>exact absurd (show false=true from hs) Aw
 |str i =>
  obtain⟨t,rfl⟩:=rx
  cases y with
  |non=>cases ry;exact PySem.EqNone.ne_str_none (zaJ I q (by simp))
  |bl j=>cases ry;exact PySem.EqMixed.ne_str_bool (zaJ I q (by simp))
  |int j=>obtain⟨t',rfl⟩:=ry;exact PySem.EqMixed.ne_str_int (zaJ I q (by simp))
  |str j=>obtain⟨t',rfl⟩:=ry;exact ne_str (zaJ I q (congrArg not zjI))
  |_=>exact absurd (show false=true from hs) Aw
 |byt i =>
  obtain⟨t,rfl⟩:=rx
  cases y with
  |byt j=>obtain⟨t',rfl⟩:=ry;exact W.ne_bytes (zaJ I q (congrArg not zjK))
  |_=>exact absurd (show false=true from hs) Aw
 |_=>cases y <;> exact absurd (show false=true from hs) Aw
theorem op_lt:OpR X (Bu .Lt) (rI0 λi j=>.bl (decide (i<j))):=opB0 λ_ _ _ _ _ _ _ q=>lt_int q
theorem op_gt:OpR X (Bu .Gt) (rI0 λi j=>.bl (decide (j<i))):=opB0 λ_ _ _ _ _ _ _ q=>gt_int q
theorem op_ge:OpR X (Bu .GtE) (rI0 λi j=>.bl (decide (j<=i))):=opB0 λ_ _ _ _ _ _ _ q=>ge_int q
theorem zge:OpR X (Bu .Is) (λx y H Q=>y=.non/\Q (.bl (decide (x=.non))) H):=by
 intro pins s σ H x y v u Q I rx ry h;obtain⟨rfl,q⟩:=h
 cases ry
 refine is_none_gen (zaJ I q ?_)
 cases x <;> first
  | (cases rx;rfl)
  | (obtain⟨t,rfl⟩:=rx;rfl)
theorem zdf:OpR X (Bu .IsNot) (λx y H Q=>y=.non/\Q (.bl (!decide (x=.non))) H):=by
 intro pins s σ H x y v u Q I rx ry h;obtain⟨rfl,q⟩:=h
 cases ry
 refine isnot_none_gen (zaJ I q ?_)
 cases x <;> first
  | (cases rx;rfl)
  | (obtain⟨t,rfl⟩:=rx;rfl)
theorem zan(b:Expr){op:CmpOp}(h:op≠.In:=by decide)(h2:op≠.NotIn:=by decide):Dq op b=false:=by
 have e1:(op == CmpOp.In)=false:=by cases op <;> first |rfl |exact absurd rfl h
 have e2:(op == CmpOp.NotIn)=false:=by cases op <;> first |rfl |exact absurd rfl h2
 cases b <;> simp[Dq,e1,e2]
theorem zaT{op:CmpOp}{r:R2}(ho:OpR X (Bu op) r)(ha:PE X a ta)(hb:PE X b tb)(hm:Dq op b=false):PE X (.Compare a [op] [b] pos) (tOp r ta tb):=by intro pins s σ H Q I h;exact wpAny_Compare1 (binT ha hb I h λv u s2 x y H2 I2 rx ry q=>ho pins s2 σ H2 x y v u Q I2 rx ry q) hm
noncomputable def tTest(t:TE):TT:=λσ H Q=>t σ H λx H'=>∃k,x=.bl k/\Q k H'
theorem zao{op:CmpOp}{r:R2}(ho:OpR X (Bu op) r)(ha:PE X a ta)(hb:PE X b tb)(hm:Dq op b=false):PT X (.Compare a [op] [b] pos) (tTest (tOp r ta tb)):=by
 intro pins s σ H Q I h
 refine wpAny_isTrue_Compare1 (thn (ha pins s σ H _ I h) λv s1 ⟨x,H1,I1,r1,q1⟩=>thn (hb pins s1 σ H1 _ I1 q1) λu s2 ⟨y,H2,I2,r2,q2⟩ =>
  thn (ho pins s2 σ H2 x y v u _ I2 r1 r2 q2) λc s3 ⟨z,H3,I3,r3,k,e,q3⟩=>?_) hm
 subst e
 cases r3
 exact BL ⟨H3,I3,q3⟩
noncomputable def TruV(K:W.Frag)(x:V)(H:Hp)(k:Bool):Prop :=
 match x with
 |.non=>k=false
 |.bl b=>k=b
 |.int i=>k=(i != 0)
 |.str y=>y.length<=sizeLine/\k=((y.length:Int) != 0)
 |.byt y=>y.size<=sizeLine/\k=((y.size:Int) != 0)
 |.ref p=>(∃xs,SqL K H p xs/\k=!xs.isEmpty)∨(∃xs,SqT K H p xs/\k=!xs.isEmpty)∨∃kvs,H p=some (.dK kvs)/\k=!kvs.isEmpty
 |_=>False
theorem zim{κ:Type}{kvs:List (κ×V)}{vs:List (κ×Value)}(r:KV kvs vs):(!vs.isEmpty)=!kvs.isEmpty:=by
 cases r <;> rfl
theorem zeX{xs:List V}{its:List Value}(r:Vals xs its):(!its.toArray.isEmpty)=!xs.isEmpty:=by
 cases r <;> simp
theorem zgr:(sizeLine:Nat)<2 ^ 63:=by rw[sizeLine_eq];decide
theorem zlR:TruR X (λx H Q=>∃k,TruV X.K x H k/\Q k H):=by
 intro pins s σ H x v Q I rx h;obtain⟨k,e,q⟩:=h;have hl:=zgr;have hs:sizeLine=16777216:=sizeLine_eq
 cases x with
 |non =>
  cases rx
  have e':k=false:=e;subst e';exact truthy_none ⟨H,I,q⟩
 |bl b =>
  cases rx
  have e':k=b:=e;subst e';exact BL ⟨H,I,q⟩
 |int i =>
  obtain⟨t,rfl⟩:=rx;have e':k=(i != 0):=e;subst e';exact PySem.P.truthy_int ⟨H,I,q⟩
 |str y =>
  obtain⟨t,rfl⟩:=rx;obtain⟨hy,e'⟩:y.length<=sizeLine/\k=((y.length:Int) != 0):=e;subst e';exact PySem.P.truthy_str (by lia) ⟨H,I.tok _,q⟩
 |byt y =>
  obtain⟨t,rfl⟩:=rx;obtain⟨hy,e'⟩:y.size<=sizeLine/\k=((y.size:Int) != 0):=e;subst e';exact W.truthy_bytes (by lia) ⟨H,I.tok _,q⟩
 |ref p =>
  cases rx
  have e':(∃xs,SqL X.K H p xs/\k=!xs.isEmpty)∨(∃xs,SqT X.K H p xs/\k=!xs.isEmpty)∨∃kvs,H p=some (.dK kvs)/\k=!kvs.isEmpty:=e;rcases e' with⟨xs,hx,e'⟩ |⟨xs,hx,e'⟩ |⟨kvs,hx,e'⟩
  .subst e';obtain⟨its,r,pl,hz⟩:=I.list hx;have hlen:=r.length;exact wpAny_truthy_list pl.isList (by simp only[Ap];lia) ⟨H,I.tok _,by rw[zeX r];exact q⟩
  .subst e';obtain⟨its,r,pl,hz⟩:=I.tuple hx;have hlen:=r.length;exact truthy_tuple pl (by simp only[Ap];lia) ⟨H,I.tok _,by rw[zeX r];exact q⟩
  .subst e';obtain⟨hz,hS,vs,r,m⟩:kvs.length<=sizeLine/\(p == Cq)=false/\∃vs,KV kvs vs/\s.heap.DictOf (zaU X.prog X.w) p vs:=I.hok p _ hx;have hlen:kvs.length=vs.length:=Dp r;exact wpAny_truthy_dict hS m (by lia) ⟨H,I.tok _,by rw[zim r];exact q⟩
 |_=>exact (show False from e).elim
theorem zhC(ha:PE X a ta)(he:∀whole, isTrue a X.env whole=(do let v <- whole; standAt a.pos; Dt [v] (truthy v))) :
  PT X a (λσ H Q=>ta σ H λx H'=>∃k,TruV X.K x H' k/\Q k H'):=by
 intro pins s σ H Q I h;exact isTrue_plain (thn (ha pins s σ H _ I h) λv s1 ⟨x,H1,I1,r1,q1⟩=>zlR pins s1 σ H1 x v Q I1 r1 q1) (he _)
theorem vals1{x:V}{us:List Value}(r:Vals [x] us):∃u,us=[u]/\RelV x u:=by
 cases r with
 |cons r1 r2=>cases r2;exact⟨_,rfl,r1⟩
theorem vals2{x y:V}{us:List Value}(r:Vals [x,y] us):∃u w',us=[u,w']/\RelV x u/\RelV y w':=by
 cases r with
 |cons r1 r2 =>
  cases r2 with
  |cons r3 r4=>cases r4;exact⟨_,_,rfl,r1,r3⟩
theorem zhZ:CallR X (.builtin "abs") (λxs H Q=>∃i,xs=[.int i]/\Q (.int (if i<0 then -i else i)) H):=by intro pins s σ H xs us Q I r h;obtain⟨i,rfl,q⟩:=h;obtain⟨u,rfl,t,rfl⟩:=vals1 r;exact call_abs_int λu tk=>⟨.int (if i<0 then -i else i),H,I.tok _,⟨_,rfl⟩,q⟩
theorem zjS (hc:X.calm=true):CallR X (.builtin "max") (λxs H Q=>∃i j,xs=[.int i,.int j]/\Q (.int (if j > i then j else i)) H):=by
 intro pins s σ H xs us Q I r h;obtain⟨i,j,rfl,q⟩:=h;obtain⟨u,w',rfl,⟨t,rfl⟩,⟨t',rfl⟩⟩:=vals2 r;refine max_two_ints (I.ok.hd hc) λh' tk k=>⟨_,H,I.kept k,?_,q⟩
 by_cases hj:j > i
 .rw[if_pos hj,if_pos hj];exact⟨_,rfl⟩
 .rw[if_neg hj,if_neg hj];exact⟨_,rfl⟩
theorem zjR (hc:X.calm=true):CallR X (.builtin "min") (λxs H Q=>∃i j,xs=[.int i,.int j]/\Q (.int (if j<i then j else i)) H):=by
 intro pins s σ H xs us Q I r h;obtain⟨i,j,rfl,q⟩:=h;obtain⟨u,w',rfl,⟨t,rfl⟩,⟨t',rfl⟩⟩:=vals2 r;refine min_two_ints (I.ok.hd hc) λh' tk k=>⟨_,H,I.kept k,?_,q⟩
 by_cases hj:j<i
 .rw[if_pos hj,if_pos hj];exact⟨_,rfl⟩
 .rw[if_neg hj,if_neg hj];exact⟨_,rfl⟩
theorem zc7:CallR X (.type "int") (λxs H Q=>(∃i,xs=[.int i]/\Q (.int i) H)∨∃k,xs=[.bl k]/\Q (.int (if k then 1 else 0)) H):=by
 intro pins s σ H xs us Q I r h;rcases h with⟨i,rfl,q⟩ |⟨k,rfl,q⟩
 .obtain⟨u,rfl,t,rfl⟩:=vals1 r;exact call_int_int ⟨.int i,H,I,⟨_,rfl⟩,q⟩
 .obtain⟨u,rfl,r1⟩:=vals1 r
  cases r1
  exact call_int_bool ⟨.int (if k then 1 else 0),H,I.tok _,⟨_,rfl⟩,q⟩
end
structure ObjM (h:Heap) (x dx C:Addr) (mA:Str->Option Value):Prop where
 obj:h.get? x=some (W.instObj C dx)
 ns:h.Ns1 dx mA
 ne:dx≠x
theorem zjv{h:Heap}{dx:Addr}{mA:Str->Option Value}(n:h.Ns1 dx mA):∃od,h.get? dx=some od/\∀name,W.lookIn name od=some (mA name):=by
 obtain⟨o,es,ep,ho,hd,hk,_,hm⟩:=n;refine⟨o,ho,λname=>?_⟩;have e:=hm name;unfold nsFind findBy at e;rw[<- Array.find?_toList]at e;unfold W.lookIn;rw[hd];dsimp only;split
 .rename_i y q
  rw[q]at e;exact congrArg some e
 .rename_i q
  rw[q]at e
  have a:es.toList.any (·.refKey)=false:=by rw[List.any_eq_false];intro y hy;obtain⟨z,t,hkey⟩:=hk y (Array.mem_toList_iff.mp hy);simp[DictEntry.refKey,hkey]
  have a':¬ es.toList.any (·.refKey)=true:=by rw[a];exact Aw
  rw[if_neg a'];exact congrArg some e
theorem ObjM.look{h:Heap}{x dx C:Addr}{mA:Str->Option Value}(I:ObjM h x dx C mA):∃od,W.InstAt h x (W.instObj C dx) C (some od)/\∀name,W.lookIn name od=some (mA name) :=
 let ⟨od,ho,hl⟩:=zjv I.ns
 ⟨od,⟨I.obj,rfl,rfl,ho⟩,hl⟩
section
variable {prog:AF}{w:A4}{A:AQ}{E:Value->Ab->Prop}{s:Ab}{K:W.Frag}{x dx C f:Addr}{mA:Str->Option Value}{name:Str}{v:Value}
end
section
variable {P:AF}{w:A4}{H H':Hp}{h h':Heap}{a C dx:Addr}{fs fs':List (Str×V)}
theorem zlD(hok:HOk P w H h)(e:H a=some (.ins C dx fs)):∃mA,ObjM h a dx C mA/\(∀f,RelO (fs.lookup f) (mA f))/\PySem.Within mA (fs.map (·.1))/\fs.length<=1000/\H dx=some (.own a):=by obtain⟨d,z,ne,ob,mA,n,r,q⟩:=(show ObjOk P w H h a (.ins C dx fs) from hok a _ e);exact⟨mA,⟨ob,n,ne⟩,r,q,z,d⟩
end
structure Cls (K:W.Frag) (C:Addr):Prop where
 pg:W.plainGet K C Str.empty=true
 hd:W.hasDictIn K C=true
 po:W.plainOver K C=true
 sa:W.findIn K (.ref C) "__setattr__" = some (some (.builtin "object.__setattr__"))
theorem Cls.get{K:W.Frag}{C:Addr}(c:Cls K C)(f:Str):W.plainGet K C f=true:=c.pg
structure Con (K:W.Frag) (C:Addr) (f:Str) (v:V) (u:Value):Prop where
 at_:W.findIn K (.ref C) f=some (some u)
 rel:RelV v u
 get:W.specialIn K u "__get__" = some none
 cp:W.copiedNames.contains f=false
structure Meth (K:W.Frag) (C:Addr) (m:Str) (f:Addr):Prop where
 at_:W.findIn K (.ref C) m=some (some (.ref f))
 fn:W.isFn K (.ref f)=true
 kp:Dd K (.ref f)=true
section
variable {X:Cx}{pins:List (Addr×Obj)}{σ:St}{H:Hp}{s:Ab}{a C dx:Addr}{fs:List (Str×V)}{f:Str}{v:V}{A:AQ}{E:Value->Ab->Prop}
end
section
variable {X:Cx}{o e value:Expr}{f:Str}{pos pos' tpos:Pos}{ta tv:TE}
end
section
variable {X:Cx}{pins:List (Addr×Obj)}{σ:St}{H:Hp}{s:Ab}{A:AQ}{E:Value->Ab->Prop}{Q:Value->Ab->Prop}{c:Value}{b:Bool}
inductive TyOf (K:W.Frag) (H:Hp):V->Value->Prop where
  |non:TyOf K H .non (.type "NoneType")
  |bl (x:Bool):TyOf K H (.bl x) (.type "bool")
  |int (i:Int):TyOf K H (.int i) (.type "int")
  |str (x:Str):TyOf K H (.str x) (.type "str")
  |flt (x:UInt64):TyOf K H (.flt x) (.type "float")
  |lst {a:Addr} {xs:List V} (e:H a=some (.lst xs)):TyOf K H (.ref a) (.type "list")
  |frz {a:Addr} {o:Obj} {xs:List V} (e:H a=some (.frz o (.lst xs))):TyOf K H (.ref a) (.type "list")
  |tup {a:Addr} {xs:List V} (e:H a=some (.tup xs)):TyOf K H (.ref a) (.type "tuple")
  |dK {a:Addr} {kvs:List (Key×V)} (e:H a=some (.dK kvs)):TyOf K H (.ref a) (.type "dict")
  |dT {a:Addr} {kvs:List (List Key×V)} (e:H a=some (.dT kvs)):TyOf K H (.ref a) (.type "dict")
  |ins {a C dx:Addr} {fs:List (Str × V)} (e:H a=some (.ins C dx fs)) (cl:Cls K C) (ha:W.findIn K (.ref C) "__class__" = some (some (.builtin "object.__class__")))
      (hn:W.specialIn K (.builtin "object.__class__") "__get__" = some (some (.builtin "getset_descriptor.__get__"))) (htk:W.takesIn K (.builtin "object.__class__")=some true)
      (hm:W.mroIn K C (.type "object")=some true):TyOf K H (.ref a) (.ref C)
theorem zjB{x:V}{u t:Value}(I:Inv X pins σ H s)(rx:RelV x u)(ty:TyOf X.K H x t)(e:W.kitOne X.K t c=some b)(h:∀tk, Q (.bool b) { s with toks := tk }) :
  Au (AA X.prog X.w) A (call (.builtin "isinstance") [u,c]) Q E s:=by
 cases ty with
 |non=>cases (show u=Dx from rx);exact C7 W.kitx_none I.kIn Cr e (λz=>nomatch z) h
 |bl y=>cases (show u=Dy y from rx);exact C7 W.kitx_bool I.kIn Cr e (λz=>nomatch z) h
 |int i=>obtain⟨t,q⟩:=(show ∃t,u=Value.int i t from rx);cases q;exact C7 W.kitx_int I.kIn Cr e (λz=>nomatch z) h
 |str y=>obtain⟨t,q⟩:=(show ∃t,u=Value.str y t from rx);cases q;exact C7 W.kitx_str I.kIn Cr e (λz=>nomatch z) h
 |flt y=>obtain⟨t,q⟩:=(show ∃t,u=Value.float y t from rx);cases q;exact C7 W.kitx_float I.kIn Cr e (λz=>nomatch z) h
 |@lst a xs ea =>
  cases (show u=At a from rx)
  obtain⟨_,_,n,_,h1⟩:=(show ObjOk X.prog X.w H s.heap a (.lst xs) from I.hok a _ ea);exact C7 W.kitx_list I.kIn ⟨_,h1,rfl⟩ e (λz=>nomatch z) h
 |@frz a ob xs ea =>
  cases (show u=At a from rx)
  obtain⟨_,_,_,n,_,h1⟩:=(show ObjOk X.prog X.w H s.heap a (.frz ob (.lst xs)) from I.hok a _ ea);exact C7 W.kitx_list I.kIn ⟨_,h1,rfl⟩ e (λz=>nomatch z) h
 |@tup a xs ea =>
  cases (show u=At a from rx)
  obtain⟨_,_,_,p⟩:=(show ObjOk X.prog X.w H s.heap a (.tup xs) from I.hok a _ ea);obtain⟨o,h1,h2,_⟩:=p;exact C7 W.kitx_tuple I.kIn ⟨o,h1,h2⟩ e (λz=>nomatch z) h
 |@dK a kvs ea =>
  cases (show u=At a from rx)
  obtain⟨_,_,vs,_,p⟩:=(show ObjOk X.prog X.w H s.heap a (.dK kvs) from I.hok a _ ea);obtain⟨o,es,ep,h1,h2,_⟩:=p;exact C7 W.kitx_dict I.kIn ⟨o,h1,h2.1⟩ e (λz=>nomatch z) h
 |@dT a kvs ea =>
  cases (show u=At a from rx)
  obtain⟨_,_,xs,_,o,es,ep,h1,h2,_⟩:=(show ObjOk X.prog X.w H s.heap a (.dT kvs) from I.hok a _ ea);exact C7 W.kitx_dict I.kIn ⟨o,h1,h2.1⟩ e (λz=>nomatch z) h
 |@ins a C dx fs ea cl ha hn htk hm =>
  cases (show u=At a from rx)
  obtain⟨mA,O,_⟩:=zlD I.hok ea;obtain⟨od,J,_⟩:=O.look;exact C7 (W.kitx_own (cl.get _) cl.hd ha hn htk hm) I.kIn J e (λz=>nomatch z) h
end
structure Room (k:Nat) (A:AQ):Prop where
 hd:A.handled=none
 dp:A.depth+3*k+5<recursionLimit
 un:A.units+16*k+200<cLine
 gd:A.guards=some []
theorem Room.mono{j k:Nat}{A:AQ}(r:Room k A)(h:j<=k):Room j A:=⟨r.hd,by have:=r.dp;lia,by have:=r.un;lia,r.gd⟩
theorem Room.deeper{k:Nat}{A:AQ}(r:Room (k+1) A)(env:Env):Room k (A.deeper env) :=
 ⟨r.hd,by have:=r.dp;show A.depth+1+3*k+5<_;lia,by have:=r.un;show A.units+3+16*k+200<_;lia,r.gd⟩
theorem Room.in1{k:Nat}{A:AQ}(r:Room (k+1) A):Room k A.in1 :=
 ⟨r.hd,by have:=r.dp;show A.depth+3*k+5<_;lia,by have:=r.un;show A.units+1+16*k+200<_;lia,r.gd⟩
theorem Room.depth{k:Nat}{A:AQ}(r:Room k A):A.depth<recursionLimit:=by have:=r.dp;lia
theorem Room.units{k:Nat}{A:AQ}(r:Room k A):A.units+64<cLine:=by have:=r.un;lia
theorem Room.units0{k:Nat}{A:AQ}(r:Room k A):A.units<cLine:=by have:=r.un;lia
noncomputable def tNil:TA:=λ_ H Q=>Q [] H
noncomputable def tCons(ta:TE)(tr:TA):TA:=λσ H Q=>ta σ H λx H1=>tr σ H1 λxs H2=>Q (x::xs) H2
section
variable {X:Cx}{e:Expr}{es:List Expr}{te:TE}{t:TA}{pos:Pos}
theorem zad:PA X [] tNil:=λ_ _ _ _ H Q I h=>Calls.spliced_nil ⟨[],H,I,.nil,h⟩
theorem zag(ha:PE X e te)(hr:PA X es t)(hs:Bl (e::es) X.env=(false,eval e X.env)::Bl es X.env:=by rfl):PA X (e::es) (tCons te t):=by intro pos pins s σ H Q I h;rw[hs];show Au _ _ (spliced ((false,eval e X.env)::backTo pos (Bl es X.env))) _ _ s;refine Calls.spliced_cons (thn (ha pins s σ H _ I h) λu s1 ⟨x,H1,I1,r1,q1⟩=>?_);exact thn (hr pos pins s1 σ H1 _ I1 q1) λus s2 ⟨xs,H2,I2,r2,q2⟩=>⟨x::xs,H2,I2,.cons r1 r2,q2⟩
noncomputable def tTup(t:TA):TE:=λσ H Q=>t σ H λxs H1=>xs.length<=sizeLine/\∀p,H1 p=none->Q (.ref p) (upd H1 p (.tup xs))
noncomputable def tLst(t:TA):TE:=λσ H Q=>t σ H λxs H1=>xs.length<=sizeLine/\∀p,H1 p=none->Q (.ref p) (upd H1 p (.lst xs))
theorem zav{x1}(h:PA X es t):PE X (.Tuple es x1 pos) (tTup t):=by intro pins s σ H Q I hq;refine wpAny_Tuple_spliced (thn (h pos pins s σ H _ I hq) λus s1 ⟨xs,H1,I1,r,z,q⟩=>⟨by rw[<- r.length];exact z,?_⟩);have hf:H1 s1.heap.objs.size=none:=I1.hok.fresh (Ai _);refine⟨.ref s1.heap.objs.size,upd H1 s1.heap.objs.size (.tup xs),I1.laid (t':=s1.toks) (λb u e=>Al _ e) (Ai _) ?_,rfl,q _ hf⟩;exact⟨z,us,r,⟨_,AU _ rfl,rfl,_,rfl⟩⟩
theorem zaX(h:PA X es t):PE X (.List es pos) (tLst t):=by intro pins s σ H Q I hq;refine wpAny_List_spliced (thn (h pos pins s σ H _ I hq) λus s1 ⟨xs,H1,I1,r,z,q⟩=>⟨by rw[<- r.length];exact z,?_⟩);have hf:H1 s1.heap.objs.size=none:=I1.hok.fresh (Ai _);refine⟨.ref s1.heap.objs.size,upd H1 s1.heap.objs.size (.lst xs),I1.laid (t':=s1.toks) (λb u e=>Al _ e) (Ai _) ?_,rfl,q _ hf⟩;exact⟨z,us,0,r,AU _ rfl⟩
end
noncomputable abbrev Sp:=List V->Hp->VK->XK->Prop
noncomputable abbrev CXT:=List Env->Hp->Ab->XK->Value->Ab->Prop
structure Env0 (P:AF) (w:A4) (K:W.Frag) (mg:Str->Option Value) (base:Heap) (A:AQ) (outer:List Env) (s:Ab) (H:Hp):Prop where
 frames:A.frames=some outer
 mod:Mod K mg base
 bs:∀b o,base.get? b=some o->s.heap.get? b=some o/\H b=none
 bsz:base.objs.size<=s.heap.objs.size
 funs:s.heap.FunFrames base outer
 frf:∀b∈frs outer,H b=none
 hok:HOk P w H s.heap
 bare:AllBare s.gens
noncomputable def CE(outer:List Env)(P:AF)(w:A4)(H:Hp)(s:Ab)(Q:VK)(u:Value)(s':Ab):Prop :=
 ∃v H',s'.os=s.os/\AllBare s'.gens/\Un (frs outer) [] H H' s.heap s'.heap/\HOk P w H' s'.heap/\RelV v u/\Q v H'
noncomputable def CR(CX:CXT)(outer:List Env)(P:AF)(w:A4)(H:Hp)(s:Ab)(Q:VK)(E:XK)(r:Result)(s':Ab):Prop :=
 match r with
 |.ok (.ret u)=>CE outer P w H s Q u s'
 |.ok _=>False
 |.error e=>CX outer H s E e s'
structure FnOk (P:AF) (w:A4) (K:W.Frag) (mg:Str->Option Value) (base:Heap) (CX:CXT) (k:Nat) (f:Addr) (fd:Bv) (ps:List Str) (sp:Sp):Prop where
 len:∀vs H Q E,sp vs H Q E->vs.length=ps.length
 run:∀(A:AQ) (outer:List Env) (s:Ab) (H:Hp) (args:Args) (us:List Value) (vs:List V) (Q:VK) (E:XK),Room k A->Env0 P w K mg base A outer s H->BindsTo s fd args (ps.zip us)->Vals vs us->sp vs H Q E ->
  CF (AA P w) A (.call (.ref f) args) (CR CX outer P w H s Q E) s
theorem FnOk.imp{P:AF}{w:A4}{K:W.Frag}{mg:Str -> Option Value}{base:Heap}{CX:CXT}{k:Nat}{f:Addr}{fd:Bv}{ps:List Str}{sp sp':Sp}(F:FnOk P w K mg base CX k f fd ps sp)
  (h:∀vs H Q E,sp' vs H Q E->sp vs H Q E):FnOk P w K mg base CX k f fd ps sp' :=
 ⟨λvs H Q E q=>F.len vs H Q E (h _ _ _ _ q),λA outer s H args us vs Q E hr he hb hv hs=>F.run A outer s H args us vs Q E hr he hb hv (h _ _ _ _ hs)⟩
theorem Env0.in1{P:AF}{w:A4}{K:W.Frag}{mg:Str -> Option Value}{base:Heap}{A:AQ}{outer:List Env}{s:Ab}{H:Hp}(e:Env0 P w K mg base A outer s H) :
  Env0 P w K mg base A.in1 outer s H:=⟨e.frames,e.mod,e.bs,e.bsz,e.funs,e.frf,e.hok,e.bare⟩
section
variable {X:Cx}{pins:List (Addr×Obj)}{σ:St}{H:Hp}{s s':Ab}
theorem Inv.env0(I:Inv X pins σ H s):Env0 X.prog X.w X.K X.mg X.base X.A X.stack s H :=
 ⟨I.ok.frames,I.ok.mod,I.bs,Bf I.ok.bsz I.sz,I.stack,I.stkFree,I.hok,I.bare⟩
theorem Inv.after{Q:VK}{u:Value}(I:Inv X pins σ H s)(h:CE X.stack X.prog X.w H s Q u s'):EP X pins σ Q u s':=by obtain⟨v,H',os,bare,un,hok,r,q⟩:=h;obtain⟨hh,g,d,t,os'⟩:=s';obtain rfl:os'=s.os:=os;exact⟨v,H',I.call (h':=hh) (g':=g) (d':=d) (t':=t) (ch:=[]) un hok bare (λb z=>absurd z (by simp)),r,q⟩
end
noncomputable def tCall(sp:Sp)(dvs:List V)(E:XK)(t:TA):TE:=λσ H Q=>t σ H λvs H1=>sp (vs++dvs) H1 Q E
noncomputable def Binds(K:W.Frag)(fd:Bv)(ps:List Str)(ds:List Value):Prop :=
 ∀(s:Ab) (us:List Value),K.In s.heap->(us++ds).length=ps.length->BindsTo s fd ⟨us,[]⟩ (ps.zip (us++ds))
theorem Binds.all{K:W.Frag}{fd:Bv}{ps:List Str}(h:∀us:List Value,us.length=ps.length->De fd ⟨us,[]⟩=pure (ps.zip us)):Binds K fd ps []:=λs us _ hl=>by rw[AH]at hl ⊢;exact .of_eq (h us hl)
noncomputable def zh0(CX:CXT)(X:Cx)(E:XK):Prop:=∀(pins:List (Addr×Obj)) (σ:St) (H:Hp) (s:Ab) (e:Value) (s':Ab),Inv X pins σ H s->CX X.stack H s E e s'->X.xe e s'
section
variable {X:Cx}{CX:CXT}{k:Nat}{f C:Addr}{fd:Bv}{ps:List Str}{sp:Sp}{dvs:List V}{ds:List Value}{E:XK}{x m:Str}{p pos apos:Pos}{e o:Expr}{es:List Expr}{ta:TE}{t:TA}
theorem zkI{pins:List (Addr × Obj)}{σ : St}{H:Hp}{s:Ab}{Q:VK}{us:List Value}{vs:List V}(F:FnOk X.prog X.w X.K X.mg X.base CX k f fd ps sp)(hr:Room k X.A)(hb:Binds X.K fd ps ds)(hd:Vals dvs ds)(hx:zh0 CX X E)
  (I:Inv X pins σ H s) (r:Vals vs us) (h:sp (vs++dvs) H Q E):Au (AA X.prog X.w) X.A (call (.ref f) us) (EP X pins σ Q) X.xe s:=by
 have r2:Vals (vs++dvs) (us++ds):=r.append hd;have hl:(us++ds).length=ps.length:=by rw[<- r2.length];exact F.len _ _ _ _ h
 refine wpAny_call (codeAny_mono (F.run X.A X.stack s H ⟨us,[]⟩ (us++ds) (vs++dvs) Q E hr I.env0 (hb s us I.kIn hl) r2 h) λr s' hq=>?_)
 cases r with
 |error e=>exact hx pins σ H s e s' I hq
 |ok fl =>
  cases fl with
  |ret u=>exact I.after hq
  |next=>exact BI hq
  |brk=>exact BI hq
  |cont=>exact BI hq
theorem zlp(F:FnOk X.prog X.w X.K X.mg X.base CX k f fd ps sp)(hr:Room k X.A)(hg:Gl X x)(hm:X.mg x=some (.ref f))(hk:Dd X.K (.ref f)=true)(hb:Binds X.K fd ps ds)(hd:Vals dvs ds)(hx:zh0 CX X E)
  (ha:PA X (e::es) t) (hdb:(x == ("__debug__" : Str))=false:=by decide) (he:Bl (e::es) X.env=(false,eval e X.env)::Bl es X.env:=by rfl) (hpl:(backTo pos (Bl es X.env)).any (·.1)=false:=by rfl) :
  PE X (.Call (.Name x p) (e::es) [] pos) (tCall sp dvs E t):=by
 intro pins s σ H Q I h;refine Cs (zha I hg hm ?_ hdb);refine W.callWith_K (h₀:=X.base) I.ok.mod.kin hk (thn (ha pos pins s σ H _ I h) λus s1 ⟨vs,H1,I1,r,q⟩=>⟨I1.kIn,?_⟩) he hpl;exact zkI F hr hb hd hx I1 r q
theorem zfj(F:FnOk X.prog X.w X.K X.mg X.base CX k f fd ps sp)(hr:Room k X.A)(hg:Gl X x)(hm:X.mg x=some (.ref f))(hk:Dd X.K (.ref f)=true)(hb:Binds X.K fd ps ds)(hd:Vals dvs ds)(hx:zh0 CX X E)
  (hdb:(x == ("__debug__" : Str))=false:=by decide):PE X (.Call (.Name x p) [] [] pos) (tCall sp dvs E tNil):=by
 intro pins s σ H Q I h;refine Cs (zha I hg hm ?_ hdb);exact W.callWith_K0 I.kIn hk (zkI (us:=[]) F hr hb hd hx I .nil h)
structure Mk (K:W.Frag) (C f:Addr):Prop where
 makes:W.makesIn K C=true
 init:W.findIn K (.ref C) "__init__" = some (some (.ref f))
 fn:W.isFn K (.ref f)=true
 kp:Dd K (.ref C)=true
end
noncomputable def PK(X:Cx)(kws:List Keyword)(t:TA):Prop :=
 ∀(pos:Pos) (pins:List (Addr×Obj)) (s:Ab) (σ:St) (H:Hp) (Q:List V->Hp->Prop),Inv X pins σ H s->t σ H Q->Au (AA X.prog X.w) X.A (evalAll ((Dr pos (Co kws X.env)).map (·.2))) (AP X pins σ Q) X.xe s
section
variable {X:Cx}{CX:CXT}{k:Nat}{f C:Addr}{fd:Bv}{ps ks:List Str}{sp:Sp}{E:XK}{x m:Str}{p pos apos kpos:Pos}{e o:Expr}{es:List Expr}{kws:List Keyword}{te ta:TE}{t tk:TA}{nm:Option Str}
theorem zkJ:PK X [] tNil:=λ_ _ _ _ H Q I h=>wpAny_evalAll_nil ⟨[],H,I,.nil,h⟩
theorem zi9(ha:PE X e te)(hr:PK X kws t):PK X (⟨nm,e,kpos⟩::kws) (tCons te t):=by intro pos pins s σ H Q I h;show Au _ _ (evalAll ((do let v <- eval e X.env;standAt pos;pure v)::(Dr pos (Co kws X.env)).map (·.2))) _ _ s;refine wpAny_evalAll_cons (Ad (thn (ha pins s σ H _ I h) λu s1 ⟨x,H1,I1,r1,q1⟩=>Ad (CK (An ?_))));exact thn (hr pos pins s1 σ H1 _ I1 q1) λus s2 ⟨xs,H2,I2,r2,q2⟩=>⟨x::xs,H2,I2,.cons r1 r2,q2⟩
structure KBinds (K:W.Frag) (fd:Bv) (ps ks:List Str) (g:List Value->List Value->List Value) (gV:List V->List V->List V):Prop where
 to:∀(s:Ab) (us ws:List Value),K.In s.heap->(g us ws).length=ps.length->BindsTo s fd ⟨us,ks.zip ws⟩ (ps.zip (g us ws))
 rel:∀{vs:List V} {us:List Value} {zs:List V} {ws:List Value},Vals vs us->Vals zs ws->Vals (gV vs zs) (g us ws)
variable {g:List Value->List Value->List Value}{gV:List V->List V->List V}
end
structure FnScope (N P:List Str) (sc:Scope):Prop where
 kind:sc.kind=.function
 co:sc.isCoroutine=false
 gen:sc.isGenerator=false
 nd:N.Nodup
 pre:N.take P.length=P
 par:∀x∈P,sc.names.lookup x=some .local∨sc.names.lookup x=some .cell
 nofree:∀y∈sc.names,y.2≠.free
theorem zgG{kindOf:Str->Option NameKind}{x:Str}:∀{binds:List (Str×Value)}{m:Str->Option Value},(∀v,(x,v) ∉ binds)->bindL kindOf binds m x=m x
 |[],_,_=>rfl
 | (n,v)::r,m,h=>by
  unfold bindL;rw[zgG λw hw=>h w (Az _ hw)];split
  .have:x≠n:=by rintro rfl;exact h v AE
   simp[this]
  .rfl
theorem zgI{kindOf:Str->Option NameKind}{x:Str}:∀{binds:List (Str×Value)}{m:Str->Option Value},(∀v,(x,v) ∉ binds)->bindC kindOf binds m x=m x
 |[],_,_=>rfl
 | (n,v)::r,m,h=>by
  unfold bindC;rw[zgI λw hw=>h w (Az _ hw)];split
  .rfl
  .have:x≠n:=by rintro rfl;exact h v AE
   simp[this]
theorem zgH{kindOf:Str -> Option NameKind}{x:Str}{v:Value} : ∀{P:List Str}{vs:List Value}{i:Nat}{m:Str -> Option Value}, P.Nodup -> P[i]? = some x -> vs[i]? = some v -> kindOf x=some .local ->
  bindL kindOf (P.zip vs) m x=some v
 |[],_,_,_,_,h,_,_=>by simp at h
 |_::_,[],_,_,_,_,h,_=>by simp at h
 |p::P,w::vs,0,m,nd,h1,h2,hk=>by
  simp at h1 h2;subst h1;subst h2;show bindL kindOf ((p,w)::P.zip vs) m p=_;unfold bindL;rw[zgG λv hv=>(B4.mp nd).1 (List.of_mem_zip hv).1,if_pos hk];simp
 |p::P,w::vs,i+1,m,nd,h1,h2,hk=>by
  show bindL kindOf ((p,w)::P.zip vs) m x=_;unfold bindL;exact zgH (i:=i) (B4.mp nd).2 (by simpa using h1) (by simpa using h2) hk
theorem zgJ{kindOf:Str -> Option NameKind}{x:Str}{v:Value} : ∀{P:List Str}{vs:List Value}{i:Nat}{m:Str -> Option Value}, P.Nodup -> P[i]? = some x -> vs[i]? = some v -> kindOf x ≠ some .local ->
  bindC kindOf (P.zip vs) m x=some v
 |[],_,_,_,_,h,_,_=>by simp at h
 |_::_,[],_,_,_,_,h,_=>by simp at h
 |p::P,w::vs,0,m,nd,h1,h2,hk=>by
  simp at h1 h2;subst h1;subst h2;show bindC kindOf ((p,w)::P.zip vs) m p=_;unfold bindC;rw[zgI λv hv=>(B4.mp nd).1 (List.of_mem_zip hv).1,if_neg hk];simp
 |p::P,w::vs,i+1,m,nd,h1,h2,hk=>by
  show bindC kindOf ((p,w)::P.zip vs) m x=_;unfold bindC;exact zgJ (i:=i) (B4.mp nd).2 (by simpa using h1) (by simpa using h2) hk
noncomputable def start(N:List Str)(vs:List V):St:=vs.map some++Ae (N.length-vs.length) none
noncomputable def cxOf(CX:CXT)(P:AF)(w:A4)(K:W.Frag)(mg:Str->Option Value)(base:Heap)(N:List Str)(qual:Str)(scope:Scope)(f:Addr)(cd:Value)(A:AQ)(outer:List Env)(s:Ab)(H:Hp)(E:XK):Cx where
 prog:=P
 w:=w
 K:=K
 mg:=mg
 base:=base
 A:=A.deeper (envOfC qual scope s.heap.objs.size f cd)
 N:=N
 s₀:=s
 H₀:=H
 env:=envOfC qual scope s.heap.objs.size f cd
 outer:=outer
 stack:=envOfC qual scope s.heap.objs.size f cd::outer
 ex:=[]
 calm:=true
 fn:=λ_=>true
 pn:=[]
 xe:=λe s'=>Au (AA P w) (A.deeper (envOfC qual scope s.heap.objs.size f cd)) (leaving (envOfC qual scope s.heap.objs.size f cd) e) (λ_ s''=>CX outer H s E e s'') (λe' s''=>CX outer H s E e' s'') s'
theorem zhY{sc:Scope}{n:Nat}{x:Str}(h:sc.names.lookup x=some .cell):∃c,(cellsFrom n sc.names []).lookup x=some c:=by have q:=W.cellsFrom_some sc.names n [] (.inl h);exact Option.isSome_iff_exists.mp q
theorem zjC{CX:CXT}{P:AF}{w:A4}{K:W.Frag}{mg:Str -> Option Value}{base:Heap}{N ps:List Str}{qual:Str}{scope:Scope}{f:Addr}{cd:Value}{A:AQ}{outer:List Env}{s s1:Ab}{H:Hp}{E:XK}{us:List Value}{vs:List V}
  (S:FnScope N ps scope) (hd:A.handled=none) (e0:Env0 P w K mg base A outer s H) (hl:vs.length=ps.length) (r:Vals vs us)
  (x:InCallC s s.heap.objs.size (bindL (envOfC qual scope s.heap.objs.size f cd).kindOf (ps.zip us) λ_=>none) (cellsFrom (s.heap.objs.size+1) scope.names []) (bindC (envOfC qual scope s.heap.objs.size f cd).kindOf (ps.zip us) λ_=>none) s1) :
  Inv (cxOf CX P w K mg base N qual scope f cd A outer s H E) [] (start N vs) H s1:=by
 have hpl:ps.length<=N.length:=by have:=congrArg List.length S.pre;rw[AX]at this;lia
 obtain⟨h1,tk,rfl,hk⟩:=x.done;have noA:∀b:Addr,b ∉ (cxOf CX P w K mg base N qual scope f cd A outer s H E).ex:=λb z=>absurd (show b∈([]:List Addr) from z) (by simp)
 refine⟨⟨e0.mod,S.kind,rfl,rfl,Ai _,λy z c h1 h2=>?_,λy hy=>?_,λy c _ h=>?_,λ_=>hd,Around.frames_deeper e0.frames,.inr ⟨rfl,rfl⟩,λb z=>absurd z (noA b),e0.bs,e0.bsz,λb _ _=>noA b,λb z=>absurd z (noA b),e0.funs,e0.frf⟩,
  rfl,e0.bare,Un.kept hk,⟨_,x.toInCall.ns,λi y v h1 h2 h3=>?_⟩,λy c h=>⟨_,x.cell y c h⟩,e0.hok.fresh (Ai _),λy c h=>?_,λp hp=>absurd (show p∈([]:List (Addr×Obj)) from hp) (by simp),e0.hok.kept hk,?_⟩
 .exact name_of_addr x.apart (Ck h1) (Ck h2)
 .have hy:scope.names.lookup y=some .cell∨scope.names.lookup y=some .free:=hy;rcases hy with hy |hy
  .exact zhY hy
  .exact absurd rfl (S.nofree _ (Ck hy))
 .exact A7 (x.above y c (Ck h))
 .have hi:i < vs.length := by
   unfold start at h2
   by_cases hi:i<vs.length
   .exact hi
   .rw[AJ (by simpa using hi)]at h2;rw[List.getElem?_replicate]at h2;split at h2 <;> cases h2
  have ha:vs[i]?=some v:=by
   unfold start at h2;rw[Ar (by simpa using hi),AI]at h2
   cases e:vs[i]? with
   |none=>rw[e]at h2;cases h2
   |some a=>rw[e]at h2;cases h2;rfl
  obtain⟨u,hu,rv⟩:=r.get ha
  have hp:ps[i]?=some y:=by rw[<- S.pre,List.getElem?_take_of_lt (by lia)];exact h1
  have ndP:ps.Nodup:=by rw[<- S.pre];exact S.nd.sublist (BV _ _)
  refine⟨u,rv,?_⟩;rcases S.par y (As hp) with k |k
  .exact .inl ⟨k,zgH ndP hp hu k⟩
  .obtain⟨c,e⟩:=zhY (n:=s.heap.objs.size+1) k;refine .inr ⟨.inl k,c,e,?_⟩;have q:=x.cell y c e;rw[zgJ ndP hp hu (by show scope.names.lookup y≠_;rw[k];decide)]at q;exact q
 .exact e0.hok.fresh (A7 (x.above y c (Ck h)))
 .unfold start;show _=N.length;rw[Af,Am,AK];lia
theorem fn_of{CX:CXT}{P:AF}{w:A4}{K:W.Frag}{mg:Str -> Option Value}{base:Heap}{k:Nat}{f:Addr}{name qual:Str}{params:Arguments}{body:List Stmt}{scope:Scope}{dV kV doc pm cdv ct oc:Value}{an od:Option Addr}
  {osl:Array (Option Value)} {N ps:List Str} {sp:Sp} (lk:K.lookup f=some ⟨oc,od,.func (CV name qual params body scope dV kV doc pm an cdv ct),osl⟩) (hcd:W.codeIn K cdv qual=true) (S:FnScope N ps scope)
  (len:∀vs H Q E,sp vs H Q E->vs.length=ps.length)
  (hbody:∀(A:AQ) (outer:List Env) (s:Ab) (H:Hp) (vs:List V) (Q:VK) (E:XK),Room k (A.deeper (envOfC qual scope s.heap.objs.size f cdv))->sp vs H Q E ->
   ∃t,PSs (cxOf CX P w K mg base N qual scope f cdv A outer s H E) body t/\t { nx:=λ_ H'=>Q .non H',rt:=Q } (start N vs) H) :
  FnOk P w K mg base CX (k+1) f (CV name qual params body scope dV kV doc pm an cdv ct) ps sp:=by
 refine⟨len,λA outer s H args us vs Q E hr e0 hb r hsp=>?_⟩;have hl:=len _ _ _ _ hsp;have KX:K.In s.heap:=e0.mod.kin.keeps λb o e=>(e0.bs b o e).1
 have lim:s.heap.NoLimit:=e0.mod.nolimit.keeps λb o e=>(e0.bs b o e).1
 have hkind:∀y∈ps.zip us,scope.names.lookup y.1=some .local∨(scope.names.lookup y.1=some .cell/\((cellsFrom (s.heap.objs.size+1) scope.names []).lookup y.1).isSome=true):=λ⟨n,v⟩ hy=>by
  rcases S.par n (List.of_mem_zip hy).1 with q |q
  .exact .inl q
  .exact .inr ⟨q,W.cellsFrom_some _ _ _ (.inl q)⟩
 refine codeAny_call_function hr.depth (KX _ _ lk) rfl S.co S.gen rfl (W.codeRec_of KX hcd) (hb _ _ _ _ ?_);refine wpAny_newFunctionEnv_cells S.kind hkind λenv he s1 x=>?_
 subst he;refine⟨lim.keeps x.toInCall.keep,codeAny_func ?_⟩;obtain⟨t,ht,hq⟩:=hbody A outer s H vs Q E (hr.deeper _) hsp;have I:Inv (cxOf CX P w K mg base N qual scope f cdv A outer s H E) [] (start N vs) H s1:=zjC S hr.hd e0 hl r x;refine BQ (ht [] s1 (start N vs) H _ I hq) (λfl s' hs=>?_) λe s' hs=>hs
 have fin:∀{σ':St} {H':Hp} {v:V} {u:Value},Inv (cxOf CX P w K mg base N qual scope f cdv A outer s H E) [] σ' H' s'->RelV v u->Q v H'->CE outer P w H s Q u s' :=
  λ{σ' H' v u} J rv q=>⟨v,H',J.os,J.bare,J.base,J.hok,rv,q⟩
 cases fl with
 |ret u =>
  obtain⟨v,σ',H',J,rv,q⟩:=hs;exact fin J rv q
 |next =>
  obtain⟨σ',H',J,q⟩:=hs;exact fin (v:=V.non) (u:=Dx) J rfl q
 |brk =>
  obtain⟨_,_,_,q⟩:=hs;exact BI q
 |cont =>
  obtain⟨_,_,_,q⟩:=hs;exact BI q
section
variable {X:Cx}{x:Str}{p pos:Pos}{e:Expr}{es:List Expr}{t:TA}{id T:String}{r:List V->Hp->VK->Prop}
noncomputable def tCB(r:List V->Hp->VK->Prop)(t:TA):TE:=λσ H Q=>t σ H λvs H1=>r vs H1 Q
theorem zaw (hc:CallR X (.builtin id) r) (hg:Gl X x) (hm:X.mg x=none) (hv:bootBuiltins x=some (.builtin id)) (ha:PA X (e :: es) t) (hn:x ≠ "__name__" := by decide) (hdb:(x == ("__debug__" : Str))=false := by decide)
  (he:Bl (e::es) X.env=(false,eval e X.env)::Bl es X.env:=by rfl) (hpl:(backTo pos (Bl es X.env)).any (·.1)=false:=by rfl):PE X (.Call (.Name x p) (e::es) [] pos) (tCB r t):=by
 intro pins s σ H Q I h;refine Cs (zd8 I hg hm hv ?_ hn hdb);exact PyProof.Rows.callWith_builtin1 (thn (ha pos pins s σ H _ I h) λus s1 ⟨vs,H1,I1,r1,q1⟩=>hc pins s1 σ H1 vs us Q I1 r1 q1) he hpl
theorem zbJ (hc:CallR X (.type T) r) (hg:Gl X x) (hm:X.mg x=none) (hv:bootBuiltins x=some (.type T)) (ha:PA X (e :: es) t) (hn:x ≠ "__name__" := by decide) (hdb:(x == ("__debug__" : Str))=false := by decide)
  (he:Bl (e::es) X.env=(false,eval e X.env)::Bl es X.env:=by rfl) (hpl:(backTo pos (Bl es X.env)).any (·.1)=false:=by rfl):PE X (.Call (.Name x p) (e::es) [] pos) (tCB r t):=by
 intro pins s σ H Q I h;refine Cs (zd8 I hg hm hv ?_ hn hdb);exact Da (thn (ha pos pins s σ H _ I h) λus s1 ⟨vs,H1,I1,r1,q1⟩=>hc pins s1 σ H1 vs us Q I1 r1 q1) he hpl
end
section
variable {κ:Type} [DecidableEq κ]
noncomputable def valV(kvs:List (κ×V))(k:κ):Option V:=(kvs.find? λkv=>decide (kv.1=k)).map (·.2)
noncomputable def putK(kvs:List (κ×V))(k:κ)(v:V):List (κ×V) :=
 if (kvs.any λkv=>decide (kv.1=k))=true then kvs.map (λkv=>if kv.1=k then (kv.1,v) else kv) else kvs++[(k,v)]
theorem zbf{p:κ×V}{r:List (κ×V)}{k:κ}(e:p.1=k):valV (p::r) k=some p.2:=by simp[valV,C4,e]
theorem zbg{p:κ×V}{r:List (κ×V)}{k:κ}(e:¬ p.1=k):valV (p::r) k=valV r k:=by simp[valV,C4,e]
theorem zdy(k:κ):∀kvs:List (κ×V),(kvs.any λkv=>decide (kv.1=k))=(valV kvs k).isSome
 |[]=>rfl
 |p::r=>by
  rw[C8]
  by_cases e:p.1=k
  .simp only[zbf e,decide_eq_true e,Bool.true_or,Option.isSome_some]
  .rw[zbg e,decide_eq_false e,Bool.false_or];exact zdy k r
theorem zhm(k j:κ)(y:V):∀kvs:List (κ×V),valV (kvs.map λkv=>if kv.1=k then (kv.1,y) else kv) j=(valV kvs j).map λx=>if j=k then y else x
 |[]=>rfl
 |p::r=>by
  have ih:=zhm k j y r;rw[Cc]
  by_cases h:p.1=k
  .rw[if_pos h]
   by_cases e:p.1=j
   .rw[zbf (p:=(p.1,y)) e,zbf e,C5,if_pos (e.symm.trans h)]
   .rw[zbg (p:=(p.1,y)) e,zbg e,ih]
  .rw[if_neg h]
   by_cases e:p.1=j
   .rw[zbf (p:=p) e,zbf e,C5,if_neg (λz=>h (e.trans z))]
   .rw[zbg (p:=p) e,zbg e,ih]
theorem zfY(k j:κ)(y:V):∀kvs:List (κ×V),valV kvs k=none->valV (kvs++[(k,y)]) j=if j=k then some y else valV kvs j
 |[],_=>by
  by_cases e:k=j
  .rw[if_pos e.symm];exact zbf (p:=(k,y)) e
  .rw[if_neg (λz=>e z.symm)];exact zbg (p:=(k,y)) e
 |p::r,hn=>by
  rw[List.cons_append];have hk:¬ p.1=k:=λz=>by rw[zbf z]at hn;cases hn
  rw[zbg hk]at hn;have ih:=zfY k j y r hn
  by_cases e:p.1=j
  .rw[zbf e,zbf e,if_neg (λz=>hk (e.trans z))]
  .rw[zbg e,zbg e,ih]
theorem zdx(kvs:List (κ×V))(k j:κ)(y:V):valV (putK kvs k y) j=if j=k then some y else valV kvs j:=by
 unfold putK
 by_cases a:(kvs.any λkv=>decide (kv.1=k))=true
 .rw[if_pos a,zhm];rw[zdy]at a
  by_cases e:j=k
  .obtain⟨x,hx⟩:=Option.isSome_iff_exists.mp a;rw[if_pos e,e,hx,C5,if_pos rfl]
  .rw[if_neg e]
   cases valV kvs j with
   |none=>rfl
   |some x=>rw[C5,if_neg e]
 .rw[if_neg a];refine zfY k j y kvs ?_
  rw[zdy]at a
  cases q:valV kvs k with
  |none=>rfl
  |some x=>rw[q]at a;exact (a rfl).elim
theorem zaV(kvs:List (κ×V))(k:κ)(v:V):(putK kvs k v).length<=kvs.length+1:=by
 unfold putK;split
 .rw[Am];lia
 .rw[Af,AS,B6];lia
theorem RelO.isSome_eq{o:Option V}{u:Option Value}(r:RelO o u):o.isSome=u.isSome:=by
 cases o with
 |none=>cases u with
  |none=>rfl
  |some _=>exact (show False from r).elim
 |some _=>cases u with
  |none=>exact (show False from r).elim
  |some _=>rfl
theorem KV.val{kvs:List (κ×V)}{vs:List (κ×Value)}(r:KV kvs vs)(k:κ):RelO (valV kvs k) (valueAt vs k):=by
 unfold KV at r
 induction r with
 |nil=>exact Cr
 |@cons p q ps qs h t ih =>
  obtain⟨h1,h2⟩:=h
  by_cases e:p.1=k
  .have e':q.1=k:=h1.symm.trans e;have b:valueAt (q::qs) k=some q.2:=by simp[valueAt,C4,e']
   rw[zbf e,b];exact h2
  .have e':¬ q.1=k:=λz=>e (h1.trans z)
   have b:valueAt (q::qs) k=valueAt qs k:=by simp[valueAt,C4,e']
   rw[zbg e,b];exact ih
theorem KV.any{kvs:List (κ×V)}{vs:List (κ×Value)}(r:KV kvs vs)(k:κ):(kvs.any λkv=>decide (kv.1=k))=vs.any λkv=>decide (kv.1=k):=by
 unfold KV at r
 induction r with
 |nil=>rfl
 |cons h t ih=>rw[C8,C8,ih,h.1]
theorem KV.repl{kvs:List (κ × V)}{vs:List (κ × Value)}(r:KV kvs vs)(k : κ){y:V}{u:Value}(ry:RelV y u) :
  KV (kvs.map λkv=>if kv.1=k then (kv.1,y) else kv) (vs.map λkv=>if kv.1=k then (kv.1,u) else kv):=by
 unfold KV at r ⊢
 induction r with
 |nil=>exact .nil
 |@cons p q ps qs h t ih =>
  rw[Cc,Cc];refine .cons ?_ ih;obtain⟨h1,h2⟩:=h
  by_cases e:p.1=k
  .rw[if_pos e,if_pos (h1.symm.trans e)];exact⟨h1,ry⟩
  .rw[if_neg e,if_neg (λz=>e (h1.trans z))];exact⟨h1,h2⟩
theorem KV.put{kvs:List (κ×V)}{vs:List (κ×Value)}(r:KV kvs vs)(k:κ){y:V}{u:Value}(ry:RelV y u):KV (putK kvs k y) (stored vs k u):=by
 unfold putK stored;rw[r.any k]
 by_cases e:(vs.any λkv=>decide (kv.1=k))=true
 .rw[if_pos e,if_pos e];exact r.repl k ry
 .rw[if_neg e,if_neg e];exact Paired.snoc r ⟨rfl,ry⟩
theorem KV.length{kvs:List (κ×V)}{vs:List (κ×Value)}(r:KV kvs vs):kvs.length=vs.length:=Dp r
end
theorem kV_is{P:AF}{w:A4}{k:Key}{u:Value}(r:RelV (kV k) u):(zaU P w).is k u=true:=by
 cases k with
 |inl i=>obtain⟨t,e⟩:=(show ∃t,u=Value.int i t from r);subst e;exact zg7 P w i t
 |inr x=>obtain⟨t,e⟩:=(show ∃t,u=Value.str x t from r);subst e;exact zbL P w x t
theorem zgz{P:AF}{w:A4}:∀{ks:List Key}{us:List Value},Vals (ks.map kV) us->ItemsAre (zaU P w) ks us
 |[],_,r=>by rw[List.map_nil]at r;cases r;exact .nil
 |k::ks,_,r=>by
  rw[Cc]at r
  cases r with
  |cons h t=>exact .cons (kV_is h) (zgz t)
noncomputable abbrev KT(H:Hp):List (List Key×V)->List (List Key×Addr×Value)->Prop:=Paired λp q=>p.1=q.1/\H q.2.1=some (.tup (p.1.map kV))/\RelV p.2 q.2.2
theorem KT.val{H:Hp}{kvs:List (List Key×V)}{xs:List (List Key×Addr×Value)}(r:KT H kvs xs)(k:List Key):RelO (valV kvs k) ((atKey xs k).map (·.2)):=by
 induction r with
 |nil=>exact Cr
 |@cons p q ps qs h t ih =>
  obtain⟨h1,_,h2⟩:=h
  by_cases e:p.1=k
  .have e':q.1=k:=h1.symm.trans e;have b:atKey (q::qs) k=some q.2:=by simp[atKey,C4,e']
   rw[zbf e,b];exact h2
  .have e':¬ q.1=k:=λz=>e (h1.trans z)
   have b:atKey (q::qs) k=atKey qs k:=by simp[atKey,C4,e']
   rw[zbg e,b];exact ih
theorem KT.repl{H:Hp}{kvs:List (List Key × V)}{xs:List (List Key × Addr × Value)}(r:KT H kvs xs)(k:List Key){y:V}{u:Value}(ry:RelV y u) :
  KT H (kvs.map λkv=>if kv.1=k then (kv.1,y) else kv) (xs.map (putAt k u)):=by
 induction r with
 |nil=>exact .nil
 |@cons p q ps qs h t ih =>
  rw[Cc,Cc];refine .cons ?_ ih;obtain⟨h1,h2,h3⟩:=h;unfold putAt
  by_cases e:p.1=k
  .rw[if_pos e,if_pos (h1.symm.trans e)];exact⟨h1,h2,ry⟩
  .rw[if_neg e,if_neg (λz=>e (h1.trans z))];exact⟨h1,h2,h3⟩
theorem KT.put{H:Hp}{kvs:List (List Key × V)}{xs:List (List Key × Addr × Value)}(r:KT H kvs xs)(k:List Key){b:Addr}{y:V}{u:Value}(hb:H b=some (.tup (k.map kV)))(ry:RelV y u) :
  KT H (putK kvs k y) (storedH xs k b u):=by
 have e:(kvs.any λkv=>decide (kv.1=k))=(atKey xs k).isSome:=by rw[zdy,(r.val k).isSome_eq,Option.isSome_map]
 unfold putK storedH;rw[e]
 by_cases q:(atKey xs k).isSome=true
 .rw[if_pos q,if_pos q];exact r.repl k ry
 .rw[if_neg q,if_neg q];exact Paired.snoc r ⟨rfl,hb,ry⟩
theorem KT.keeps{H H':Hp}{kvs:List (List Key×V)}{xs:List (List Key×Addr×Value)}(r:KT H kvs xs)(ht:∀b ys,H b=some (.tup ys)->H' b=some (.tup ys)):KT H' kvs xs :=
 Paired.mapP r λ_ _ z=>⟨z.1,ht _ _ z.2.1,z.2.2⟩
section
variable {P:AF}{w:A4}{H:Hp}{h:Heap}{a:Addr}
theorem rd_of{u:HO}(ok:HOk P w H h)(e:Rd H a u):ObjOk P w H h a u:=e.ok ok
theorem dk_rd{kvs:List (Key×V)}(ok:HOk P w H h)(e:Rd H a (.dK kvs)):kvs.length<=sizeLine/\(a == Cq)=false/\∃vs,KV kvs vs/\h.DictOf (zaU P w) a vs :=
 show ObjOk P w H h a (.dK kvs) from rd_of ok e
theorem dk_of{kvs:List (Key×V)}(ok:HOk P w H h)(e:H a=some (.dK kvs)):kvs.length<=sizeLine/\(a == Cq)=false/\∃vs,KV kvs vs/\h.DictOf (zaU P w) a vs:=dk_rd ok (.inl e)
theorem zeW{ks:List Key}(ok:HOk P w H h)(e:H a=some (.tup (ks.map kV))):(tupleKind (zaU P w)).is h ks a:=by obtain⟨_,its,r,o,h1,h2,n,h3⟩:=(show ObjOk P w H h a (.tup (ks.map kV)) from ok a _ e);exact⟨o,its.toArray,n,h1,h2,h3,by simpa using zgz r⟩
theorem dt_rd{kvs:List (List Key × V)}(ok:HOk P w H h)(e:Rd H a (.dT kvs)):kvs.length <= sizeLine /\ (a == Cq)=false /\
  ∃xs,KT H kvs xs/\h.DictOfH (tupleKind (zaU P w)) a xs:=by
 obtain⟨z,y,xs,r,o,es,ep,h1,h2,h3,h4,h5⟩:=(show ObjOk P w H h a (.dT kvs) from rd_of ok e);refine⟨z,y,xs,r,o,es,ep,h1,h2,h3,h4,λx hx=>?_,h5⟩
 have all:∀{l:List (List Key×V)} {m:List (List Key×Addr×Value)},KT H l m->∀x∈m,(tupleKind (zaU P w)).is h x.1 x.2.1:=by
  intro l m q
  induction q with
  |nil=>intro x hx;exact nomatch hx
  |@cons p q ps qs hq t ih =>
   intro x hx;rcases Av.mp hx with e |hx
   .subst e;exact zeW ok (by rw[<- hq.1];exact hq.2.1)
   .exact ih x hx
 exact all r x hx
theorem dt_of{kvs:List (List Key × V)}(ok:HOk P w H h)(e:H a=some (.dT kvs)):kvs.length <= sizeLine /\ (a == Cq)=false /\
  ∃xs,KT H kvs xs/\h.DictOfH (tupleKind (zaU P w)) a xs:=dt_rd ok (.inl e)
end
noncomputable def DGet(H:Hp)(a:Addr)(y:V)(r:Option V):Prop :=
 (∃kvs k,Rd H a (.dK kvs)/\y=kV k/\r=valV kvs k)∨∃kvs k b,Rd H a (.dT kvs)/\y=.ref b/\H b=some (.tup (k.map kV))/\r=valV kvs k
noncomputable def DPut(H:Hp)(a:Addr)(y v:V)(H':Hp):Prop :=
 (∃kvs k,H a=some (.dK kvs)/\y=kV k/\kvs.length<sizeLine/\H'=upd H a (.dK (putK kvs k v))) ∨
 ∃kvs k b,H a=some (.dT kvs)/\y=.ref b/\H b=some (.tup (k.map kV))/\kvs.length<sizeLine/\H'=upd H a (.dT (putK kvs k v))
section
variable {X:Cx}{pins:List (Addr×Obj)}{σ:St}{H:Hp}{s:Ab}{a:Addr}{y v:V}{u r:Value}{o:Option V}{A:AQ}{E:Value->Ab->Prop}
theorem Inv.big(I:Inv X pins σ H s):Cq<s.heap.objs.size:=by have h:AN<s.heap.objs.size:=(I.mod.glob.keeps I.bk).lt;exact Nat.lt_trans (by decide) h
theorem d_in{Q:Value -> Ab -> Prop}(hu:A.units + 1 < cLine)(I:Inv X pins σ H s)(g:DGet H a y o)(ry:RelV y u)(h:∀s', Inv X pins σ H s' -> Q (.bool o.isSome) s') :
  Au (AA X.prog X.w) A (Bu .In u (.ref a)) Q E s:=by
 rcases g with⟨kvs,k,e,ey,l⟩ |⟨kvs,k,b,e,ey,eb,l⟩
 .subst ey;obtain⟨z,hd,vs,rel,dd⟩:=dk_rd I.hok e;refine wpAny_in_of (kV_is ry) hd dd.mapOf ?_
  rw[<- (rel.val k).isSome_eq,<- l];exact h _ (I.tok _)
 .subst ey
  cases (show u=At b from ry)
  obtain⟨z,hd,xs,rel,dd⟩:=dt_rd I.hok e;refine wpAny_in_heap (DB hu) (zeW I.hok eb) hd dd ?_
  have q:=(rel.val k).isSome_eq;rw[Option.isSome_map]at q;rw[<- q,<- l];exact h _ (I.tok _)
theorem zlH{Q:Value -> Ab -> Prop}(hu:A.units + 1 < cLine)(I:Inv X pins σ H s)(g:DGet H a y o)(ry:RelV y u)(h:∀s', Inv X pins σ H s' -> Q (.bool (!o.isSome)) s') :
  Au (AA X.prog X.w) A (Bu .NotIn u (.ref a)) Q E s:=by
 rcases g with⟨kvs,k,e,ey,l⟩ |⟨kvs,k,b,e,ey,eb,l⟩
 .subst ey;obtain⟨z,hd,vs,rel,dd⟩:=dk_rd I.hok e;refine wpAny_notIn_of (kV_is ry) hd dd.mapOf ?_
  rw[<- (rel.val k).isSome_eq,<- l];exact h _ (I.tok _)
 .subst ey
  cases (show u=At b from ry)
  obtain⟨z,hd,xs,rel,dd⟩:=dt_rd I.hok e;refine wpAny_notIn_heap (DB hu) (zeW I.hok eb) hd dd ?_
  have q:=(rel.val k).isSome_eq;rw[Option.isSome_map]at q;rw[<- q,<- l];exact h _ (I.tok _)
theorem zee{h':Heap}{t':Nat}{ob:HO}(I:Inv X pins σ H s)(mu:Mut (H a))(hs:CU a s.heap h')(he:∃q, h'.get? a=some q)(new:ObjOk X.prog X.w (upd H a ob) h' a ob) :
  Inv X pins σ (upd H a ob) { s with heap:=h',toks:=t' } :=
 I.write (x:=a) (e:=a) mu (.inl rfl) (λb q hb z=>(hs.2 b hb).trans z) he new
theorem zkZ{P:AF}{w:A4}{H':Hp}{h':Heap}{kvs:List (Key × V)}{vs:List (Key × Value)}(z:kvs.length <= sizeLine)(hd:(a == Cq)=false)(rel:KV kvs vs)(dd:h'.DictOf (zaU P w) a vs) :
  ObjOk P w H' h' a (.dK kvs):=⟨z,hd,vs,rel,dd⟩
theorem zjL{H':Hp}{Q:Unit -> Ab -> Prop}(hu:A.units + 1 < cLine)(I:Inv X pins σ H s)(g:DPut H a y v H')(ry:RelV y u)(rv:RelV v r)(h:∀s', Inv X pins σ H' s' -> Q () s') :
  Au (AA X.prog X.w) A (setItem (.ref a) u r) Q E s:=by
 rcases g with⟨kvs,k,e,ey,l,eH⟩ |⟨kvs,k,b,e,ey,eb,l,eH⟩
 .subst ey eH;obtain⟨z,hd,vs,rel,dd⟩:=dk_of I.hok e;have hz:vs.length<=sizeLine:=by rw[<- rel.length];exact z
  have hl:(putK kvs k v).length<=sizeLine:=by have:=zaV kvs k v;lia
  refine wpAny_setItem_pairs (hsz:=hz) (kV_is ry) dd λh' dd' hs=>h _ ?_
  have he:∃q,h'.get? a=some q:=let ⟨q,_,_,hq,_⟩:=dd';⟨q,hq⟩
  exact zee I (by rw[e];exact Cr) hs he (zkZ hl hd (rel.put k rv) dd')
 .subst ey eH
  cases (show u=At b from ry)
  obtain⟨z,hd,xs,rel,dd⟩:=dt_of I.hok e;have hz:xs.length<=sizeLine:=by rw[<- Dp rel];exact z
  have hl:(putK kvs k v).length<=sizeLine:=by have:=zaV kvs k v;lia
  refine wpAny_setItem_heap (hsz:=hz) (DB hu) (zeW I.hok eb) dd λh' dd' hs=>h _ ?_
  obtain⟨q,es,ep,hq,h2,h3,h4,_,h5⟩:=dd';refine zee I (by rw[e];exact Cr) hs ⟨q,hq⟩ ⟨hl,hd,_,(rel.put k eb rv).keeps λc ys ec=>?_,q,es,ep,hq,h2,h3,h4,h5⟩;rw[zam (ne_of ec e (λz=>nomatch z))];exact ec
end
section
variable {X:Cx}{pins:List (Addr×Obj)}{σ:St}{H:Hp}{s:Ab}{a:Addr}{kvs:List (Key×V)}{k:Key}{u:Value}{A:AQ}{E:Value->Ab->Prop}
end
noncomputable def NoSl(i:Expr):Prop:=∀ov iv,subscripted i false ov iv=operate [ov,iv] (getItem ov iv)
theorem ziD{prog:AF}{w:A4}{A:AQ}{E:Value -> Ab -> Prop}{s:Ab}{env:Env}{value slice:Expr}{pos:Pos}{T id:String}{Q:Value -> Ab -> Prop}
  (hl:typeLookup (.type T) "__getitem__" = pure (some (.builtin id))) (hs:NoSl slice)
  (h:Au (AA prog w) A (eval value env) (λo s₁=>Au (AA prog w) A (eval slice env) (λi s₂=>s₂.TypeIs o T/\Au (AA prog w) A (getItem o i) Q E s₂) E s₁) E s) :
  Au (AA prog w) A (eval (.Subscript value slice pos) env) Q E s:=by
 refine Subscript_ (BQ h (λo s₁ h₁=>BQ h₁ (λi s₂ h₂=>?_) λ_ _ x=>x) λ_ _ x=>x);obtain⟨hT,h₂⟩:=h₂;unfold subscriptTail;refine Ad ?_
 rw[getitemInPython_of_ne hT.not_modules];refine Ad (wpAny_specialOf hT hl ?_)
 have fin:Au (AA prog w) A (subscripted slice false o i) (λr s₃=>Au (AA prog w) A (letTemporaryGo value o r >>= λ_=>pure r) Q E s₃) E s₂:=by rw[hs o i];exact wpAny_operating (BQ h₂ (λr s₃ h₃=>Ad (wpAny_letTemporaryGo (An h₃))) λ_ _ x=>x)
 first
  |exact An (Ad fin)
  |exact Ad (An (Ad fin))
  |exact Ad fin
noncomputable def tDIn(ty td:TE):TE:=λσ H Q=>ty σ H λy H1=>td σ H1 λx H2=>∃a o,x=.ref a/\DGet H2 a y o/\Q (.bl o.isSome) H2
noncomputable def zla(ty td:TE):TE:=λσ H Q=>ty σ H λy H1=>td σ H1 λx H2=>∃a o,x=.ref a/\DGet H2 a y o/\Q (.bl (!o.isSome)) H2
noncomputable def sDPut(td ty tv:TE):TS:=λD σ H=>tv σ H λv H1=>td σ H1 λx H2=>ty σ H2 λy H3=>∃a H4,x=.ref a/\DPut H3 a y v H4/\D.nx σ H4
section
variable {X:Cx}{o i e value:Expr}{pos pos' tpos:Pos}{td ty tv:TE}
theorem zkL(hu:X.A.units+1<cLine)(hi:PE X i ty)(ho:PE X o td):PC X .In i o (tDIn ty td):=by
 intro pins s σ H Q I h;refine thn (hi pins s σ H _ I h) λiv s1 ⟨y,H1,I1,ry,q1⟩=>thn (ho pins s1 σ H1 _ I1 q1) λu s2 ⟨x,H2,I2,rx,a,ov,ex,g,q2⟩=>?_
 subst ex;obtain rfl:u=At a:=rx;exact d_in hu I2 g ry λs3 I3=>⟨.bl ov.isSome,H2,I3,rfl,q2⟩
theorem zgc(hu:X.A.units+1<cLine)(hi:PE X i ty)(ho:PE X o td):PC X .NotIn i o (zla ty td):=by
 intro pins s σ H Q I h;refine thn (hi pins s σ H _ I h) λiv s1 ⟨y,H1,I1,ry,q1⟩=>thn (ho pins s1 σ H1 _ I1 q1) λu s2 ⟨x,H2,I2,rx,a,ov,ex,g,q2⟩=>?_
 subst ex;obtain rfl:u=At a:=rx;exact zlH hu I2 g ry λs3 I3=>⟨.bl (!ov.isSome),H2,I3,rfl,q2⟩
theorem zi5(hu:X.A.units + 1 < cLine)(ho:PE X o td)(hi:PE X i ty)(hv:PE X value tv)(hs:swapsWith value (some (.Subscript o i pos')) pos.line X.env=pure false) :
  PS X (.Assign [.Subscript o i pos'] value pos) (sDPut td ty tv):=by
 intro pins s σ H D I h;refine wpAny_Assign_Subscript (thn (hv pins s σ H _ I h) λr s1 ⟨v,H1,I1,rv,q1⟩=>thn (ho pins s1 σ H1 _ I1 q1) λu s2 ⟨x,H2,I2,rx,q2⟩=>thn (hi pins s2 σ H2 _ I2 q2) λiv s3 ⟨y,H3,I3,ry,a,H4,ex,g,q3⟩=>?_) hs;subst ex;obtain rfl:u=At a:=rx;exact zjL hu I3 g ry rv λs4 I4=>⟨σ,H4,I4,q3⟩
end
theorem zhU {P:AF}{w:A4}{H:Hp}(h:Heap) (hb:Cq<h.objs.size):ObjOk P w H (h.push { cls:=.type "dict",data:=.dict #[] }) h.objs.size (.dT []) :=
 ⟨Be _,beq_eq_false_iff_ne.mpr (B8 (A9 hb)),[],.nil,_,#[],0,AU _ rfl,⟨rfl,rfl,rfl⟩,rfl,rfl,List.nodup_nil⟩
noncomputable def zlV:TE:=λ_ H Q=>∀p,H p=none->Q (.ref p) (upd H p (.dT []))
section
variable {X:Cx}{pos:Pos}
theorem zfi:PE X (.Dict [] [] pos) zlV:=λpins s σ H Q I h =>
 wpAny_Dict_empty ⟨.ref s.heap.objs.size,_,I.laid (a:=s.heap.objs.size) (o:=.dT []) (t':=s.toks) (λ_ _ q=>Al _ q) (Ai _) (zhU s.heap I.big),rfl,h _ (I.hok.fresh (Ai _))⟩
end
structure M1 (X:Cx) (o:Expr) (m:Str) (apos:Pos) (e:Expr) (cpos:Pos):Prop where
 base:attributeBase o m X.env (eval o X.env)=eval o X.env
 few:((backTo cpos (Bl [e] X.env)).all (λx=>!x.1) && (Dr cpos (Co [] X.env)).all (λx=>x.1.isSome)
  && decide (([e]:List Expr).length+([]:List Keyword).length+(if ([]:List Keyword).isEmpty then 0 else 1)<30))=true
 line:(apos.endLine == cpos.line)=true
 trees:backTo cpos (Bl [e] X.env)=[(false,eval e X.env)]
structure M2 (X:Cx) (o:Expr) (m:Str) (apos:Pos) (e f:Expr) (cpos:Pos):Prop where
 base:attributeBase o m X.env (eval o X.env)=eval o X.env
 few:((backTo cpos (Bl [e,f] X.env)).all (λx=>!x.1) && (Dr cpos (Co [] X.env)).all (λx=>x.1.isSome)
  && decide (([e,f]:List Expr).length+([]:List Keyword).length+(if ([]:List Keyword).isEmpty then 0 else 1)<30))=true
 line:(apos.endLine == cpos.line)=true
 trees:backTo cpos (Bl [e,f] X.env)=[(false,eval e X.env),(false,eval f X.env)]
noncomputable def IsD(H:Hp)(a:Addr):Prop:=(∃kvs,Rd H a (.dK kvs))∨∃kvs,Rd H a (.dT kvs)
theorem zml{X:Cx}{pins:List (Addr × Obj)}{σ : St}{H:Hp}{s:Ab}{a:Addr}(I:Inv X pins σ H s)(d:IsD H a) :
  s.TypeIs (.ref a) "dict" /\ (∀b,At a=.ref b->∃ob,s.heap.get? b=some ob/\ob.dict=none)/\(a == Cq)=false:=by
 rcases d with⟨kvs,e⟩ |⟨kvs,e⟩
 .obtain⟨_,hd,vs,_,dd⟩:=dk_rd I.hok e;refine⟨dd.typeIs,λb q=>?_,hd⟩
  cases q
  obtain⟨ob,_,_,h1,h2,_⟩:=dd;exact⟨ob,h1,h2.2.1⟩
 .obtain⟨_,hd,xs,_,dd⟩:=dt_rd I.hok e;refine⟨dd.typeIs,λb q=>?_,hd⟩
  cases q
  obtain⟨ob,_,_,h1,h2,_⟩:=dd;exact⟨ob,h1,h2.2.1⟩
section
variable {X:Cx}{pins:List (Addr×Obj)}{σ:St}{H:Hp}{s:Ab}{a:Addr}{y d:V}{u r:Value}{o:Option V}{A:AQ}{E:Value->Ab->Prop}
end
section
variable {X:Cx}{o e f:Expr}{apos cpos:Pos}{td ty tx:TE}
end
section
variable {X:Cx}{pins:List (Addr×Obj)}{σ:St}{H:Hp}{s:Ab}{a:Addr}{kvs:List (Key×V)}{A:AQ}{E:Value->Ab->Prop}
end
section
variable {X:Cx}{pins:List (Addr×Obj)}{σ:St}{H:Hp}{s:Ab}{a:Addr}{y:V}{u:Value}{A:AQ}{E:Value->Ab->Prop}
end
end L2
namespace HT
open PySem PyProof.Rows
noncomputable def lexLt:List Int->List Int->Bool
 |[],[]=>false
 |[],_::_=>true
 |_::_,[]=>false
 |x::xs,y::ys=>if x=y then lexLt xs ys else decide (x<y)
theorem lexLt_cons(x y:Int)(xs ys:List Int):lexLt (x::xs) (y::ys)=if x=y then lexLt xs ys else decide (x<y):=rfl
theorem zfz:lexLt [] []=false:=rfl
theorem zeB(y:Int)(ys:List Int):lexLt [] (y::ys)=true:=rfl
theorem zeC(x:Int)(xs:List Int):lexLt (x::xs) []=false:=rfl
theorem zhS(A:AQ)(s:Ab)(a:Int)(t:Tok)(c:Int)(u:Tok):∃e,SeqAt.EqAt A s (.int a t) (.int c u) e/\(e=true ↔ a=c) :=
 ⟨(a == c),SeqAt.EqAt.int_int a t c u,by simp⟩
theorem zj4(A:AQ)(s:Ab)(a:Int)(t:Tok)(c:Int)(u:Tok)(prog:AF)(w:A4)(E:Value -> Ab -> Prop)(Q:Value -> Ab -> Prop)(h:Q (.bool (decide (a < c))) s) :
  Au (AA prog w) A (richCompare .Lt (.int a t) (.int c u)) Q E s :=
 (PyProof.Rows.lt_int h:Au (AA prog w) A (Bu .Lt (.int a t) (.int c u)) Q E s)
section
open PySem.SeqAt
open PySem.AutoSeq1 (wpAny_loadPart')
open PySem.MeetsSeq PySem.MeetsSeq2 PySem.MeetsSeq3
theorem ze1(l b:Addr)(items items2:Array Value)(n n2:Nat)(dd dd2:Option Addr)(sl sl2:Array (Option Value))(ns ms:List Int)(hi:Cd items.toList ns)(hj:Cd items2.toList ms) :
  Meets (Builtin.«tuple.__lt__» ⟨[.ref l,.ref b],[]⟩)
   (λ_ R s=>s.heap.get? l=some { cls:=.type "tuple",dict:=dd,data:=.seq items n,slots:=sl }/\s.heap.get? b=some { cls:=.type "tuple",dict:=dd2,data:=.seq items2 n2,slots:=sl2 } /\
    R (.ok (.ret (.bool (lexLt ns ms)))) s) :=
 .of_wp λprog w A R s h=>by
  obtain⟨hp,g,d,tk,os⟩:=s;obtain⟨hl,hb,h⟩:=h;have f2:=AutoSeq1.sub_tuple_tuple;have z1:items.size=ns.length:=by rw[<- hi.length];simp
  have z2:items2.size=ms.length:=by rw[<- hj.length];simp
  wp_walk using Cj hl,Cj hb,wpAny_forIn_list _ (λrest b s'=>b.1=none/\s'=⟨hp,g,d,tk,os⟩/\∃(vs ws:List Value) (ns' ms':List Int),rest=vs.zip ws /\
   Cd vs ns'/\Cd ws ms'/\ns'.length+items2.size=ms'.length+items.size/\R (.ok (.ret (.bool (lexLt ns' ms')))) ⟨hp,g,d,tk,os⟩) _
  case turn =>
   rintro⟨y,x⟩ rest b s' ⟨hb',rfl,vs,ws,ns',ms',hz,hvi,hwi,hlen,hR⟩
   cases hvi with
   |nil=>rw[List.zip_nil_left]at hz;cases hz
   |cons a t hvi' =>
    cases hwi with
    |nil=>rw[List.zip_nil_right]at hz;cases hz
    |cons c u hwi' =>
     rw[DC]at hz;injection hz with hyx hrest;injection hyx with hy hx;subst hy hx;rw[lexLt_cons]at hR;simp only[AS]at hlen;obtain⟨e,he,hiff⟩:=zhS A.in1 ⟨hp,g,d,tk,os⟩ a t c u;refine Ad (he prog w _ _ ?_)
     cases e with
     |true =>
      rw[if_pos (hiff.mp rfl)]at hR
      wp_walk
      exact⟨rfl,rfl,_,_,_,_,hrest,hvi',hwi',by lia,hR⟩
     |false =>
      rw[if_neg (λq=>absurd (hiff.mpr q) Aw)]at hR;have hri:=zj4 A.in1 ⟨hp,g,d,tk,os⟩ a t c u prog w
      wp_walk using hri
      exact⟨_,rfl,by simpa using hR⟩
  case fin =>
   rintro⟨b1,b2⟩ s' ⟨hb',rfl,vs,ws,ns',ms',hz,hvi,hwi,hlen,hR⟩;simp only at hb';subst hb'
   have hv:lexLt ns' ms'=decide (items.size<items2.size):=by
    cases hvi with
    |nil =>
     cases hwi with
     |nil =>
      simp only[B6]at hlen;rw[zfz];exact (decide_eq_false (by lia)).symm
     |cons c u hw =>
      simp only[B6,AS]at hlen;rw[zeB];exact (decide_eq_true (by lia)).symm
    |cons a t hv =>
     cases hwi with
     |nil =>
      simp only[B6,AS]at hlen;rw[zeC];exact (decide_eq_false (by lia)).symm
     |cons c u hw =>
      rw[DC]at hz
      cases hz
   rw[hv]at hR
   wp_walk
   exact⟨_,rfl,by simpa[Builtin.Tuple.tupleCompareSizes]using hR⟩
  case h =>
   exact⟨rfl,rfl,items.toList,items2.toList,ns,ms,rfl,hi,hj,by lia,h⟩
end
section
variable {prog:AF}{w:A4}{A:AQ}{E:Value->Ab->Prop}{s:Ab}
theorem lt_tupInts{l b:Addr}{items items2:Array Value}{ns ms:List Int}{Q:Value -> Ab -> Prop}(hl:IsTup s.heap l items)(hb:IsTup s.heap b items2)(hi:Cd items.toList ns)(hj:Cd items2.toList ms)
  (hu:A.units<cLine) (h:Q (.bool (lexLt ns ms)) s):Au (AA prog w) A (Bu .Lt (.ref l) (.ref b)) Q E s:=by
 obtain⟨⟨cls,dd,data,sl⟩,ho,hc,n,hd⟩:=id hl;obtain⟨⟨cls2,dd2,data2,sl2⟩,ho2,hc2,n2,hd2⟩:=id hb;simp only at hc hd hc2 hd2;subst hc hd hc2 hd2
 exact richCompare_meets_room (op:=.Lt) ⟨_,ho,rfl⟩ ⟨_,ho2,rfl⟩ PySem.F.slot_tuple_lt PySem.F.entry_tuple_lt (PySem.F.args_tuple_lt_2 _ _) (ze1 l b items items2 n n2 dd dd2 sl sl2 ns ms hi hj)
  ⟨ho,ho2,show Dy (lexLt ns ms)≠Value.notImplemented/\Q (.bool (lexLt ns ms)) s from ⟨(λx=>nomatch x),h⟩⟩ hu
theorem cat_tup{t b:Addr}{vs ws:List Value}{Q:Value -> Ab -> Prop}(ht:IsTup s.heap t vs.toArray)(hb:IsTup s.heap b ws.toArray)(hv:vs ≠ [])
  (h1:ws=[]->Q (.ref t) s) (h2:ws≠[]->Q (.ref s.heap.objs.size) { s with heap:=s.heap.push { cls:=.type "tuple",data:=.seq (vs++ws).toArray } })
  (hsz:vs.length+ws.length<=sizeLine):Au (AA prog w) A (CD .Add (.ref t) (.ref b)) Q E s:=by
 obtain⟨⟨cls,dd,data,sl⟩,ho,hc,n,hd⟩:=id ht;obtain⟨⟨cls2,dd2,data2,sl2⟩,ho2,hc2,n2,hd2⟩:=id hb;simp only at hc hd hc2 hd2;subst hc hd hc2 hd2;have e:vs.toArray++ws.toArray=(vs++ws).toArray:=by simp
 by_cases hw:ws=[]
 .exact concat_meets ⟨_, ho, rfl⟩ ⟨_, ho2, rfl⟩ noFill_tuple_add seq_tuple_add PySem.F.slot_tuple_add DG (Ds _ _)
   (tuple_addW1 t b vs.toArray ws.toArray n n2 dd dd2 sl sl2 (by simpa using hv) (by simp[hw])) ⟨ho,ho2,h1 hw⟩
 .refine concat_meets ⟨_, ho, rfl⟩ ⟨_, ho2, rfl⟩ noFill_tuple_add seq_tuple_add PySem.F.slot_tuple_add DG (Ds _ _)
   (tuple_addW2 t b vs.toArray ws.toArray n n2 dd dd2 sl sl2 (by simpa using hv) (by simpa using hw) (by rw[Ap,Ap];exact hsz)) ⟨ho,ho2,?_⟩
  rw[e];exact h2 hw
noncomputable def sIx(n d:Nat):Option Int->Nat
 |none=>d
 |some v=>if v<0 then (v+(n:Int)).toNat else min v.toNat n
theorem zl3(n d:Nat)(hd:d<=n)(o:Option Int):sIx n d o<=n:=by
 cases o with
 |none=>exact hd
 |some v =>
  show (if v<0 then (v+(n:Int)).toNat else min v.toNat n)<=n
  by_cases hv:v<0
  .rw[if_pos hv];lia
  .rw[if_neg hv];exact Nat.min_le_right _ _
theorem zjO(v:Int)(n d:Nat):(if v<0 then max (v+(n:Int)) 0 else min v (n:Int))=((sIx n d (some v):Nat):Int):=by
 show (if v<0 then max (v+(n:Int)) 0 else min v (n:Int))=(((if v<0 then (v+(n:Int)).toNat else min v.toNat n):Nat):Int)
 by_cases hv:v<0
 .simp only[if_pos hv];lia
 .simp only[if_neg hv];lia
theorem zis(lo hi:Option Int)(n:Nat):Dl lo hi 1 (n:Int)=(((sIx n 0 lo:Nat):Int),((sIx n n hi:Nat):Int)):=by
 have h1:¬ ((1:Int)<0):=by lia
 unfold Dl;simp only[h1,if_false];refine Prod.ext ?_ ?_
 .cases lo with
  |none=>rfl
  |some v=>exact zjO v n 0
 .cases hi with
  |none=>rfl
  |some v=>exact zjO v n n
theorem zid(i j:Nat):CA (i:Int) (j:Int) 1=j-i:=by
 unfold CA;have h1:(1:Int) > 0:=by lia
 simp only[h1,if_true,Int.ediv_one];split <;> lia
theorem zeO{v:Value}{o:Option Int}{Q:Option Int->Ab->Prop}(p:IsPart v o)(h:Q o s):Au (AA prog w) A (Builtin.Slice.slicePartIndex v) Q E s:=by
 cases p with
 |none=>exact slicePart_none h
 |int i t=>exact slicePart_int h
theorem zcg{sl:Addr}{vl vu:Value}{lo hi:Option Int}{n:Nat}{Q:Int × Int × Nat -> Ab -> Prop}(hs:s.heap.IsSliceOf sl vl vu .none)(pl:IsPart vl lo)(pu:IsPart vu hi)
  (h:Q (((sIx n 0 lo:Nat):Int),1,sIx n n hi-sIx n 0 lo) s):Au (AA prog w) A (Builtin.Slice.sliceApplied (.ref sl) (pure (n:Int))) Q E s:=by
 obtain⟨os,hos,hcs,hds⟩:=id hs;unfold Builtin.Slice.sliceApplied Builtin.Slice.sliceFields;refine Ad (Ad (wpAny_field hos hds (x:=vl) rfl (Ad (wpAny_field hos hds (x:=vu) rfl (Ad (wpAny_field hos hds (x:=.none) rfl (An ?_)))))));refine Ad (slicePart_none ?_);show Au _ _ (if ((1:Int) == 0)=true then _ else _) _ _ s;rw[if_neg (by decide)];refine Ad (zeO pl (Ad (zeO pu (Ad (An ?_)))));show Au _ _ (match Dl lo hi 1 (n:Int) with | (lo,hi)=>pure (lo,(1:Int),CA lo hi 1)) _ _ s;rw[zis lo hi n];show Au _ _ (pure (((sIx n 0 lo:Nat):Int),(1:Int),CA ((sIx n 0 lo:Nat):Int) ((sIx n n hi:Nat):Int) 1)) _ _ s;rw[zid];exact An h
theorem zj7(xs:Array Value)(i k:Nat):((BD k).filterMap λ(m:Nat)=>xs[((i:Int)+(m:Int)*1).toNat]?).toArray=((xs.toList.drop i).take k).toArray:=by
 have e:(λ(m:Nat)=>xs[((i:Int)+(m:Int)*1).toNat]?)=λm=>xs[i+m]?:=by
  funext m
  have:((i:Int)+(m:Int)*1).toNat=i+m:=by lia
  rw[this]
 rw[e];have:=pick_run xs i k;rw[List.filterMap_map]at this;have e2:((λx=>xs[x]?) ∘ λx=>i+x)=λm=>xs[i+m]?:=rfl
 rw[e2]at this;rw[this]
theorem getItem_tuple_cut{t sl:Addr}{items:Array Value}{vl vu:Value}{lo hi:Option Int}{Q:Value -> Ab -> Prop}(ht:IsTup s.heap t items)(hs:s.heap.IsSliceOf sl vl vu .none)(pl:IsPart vl lo)(pu:IsPart vu hi)
  (hw:¬ (sIx items.size 0 lo=0/\sIx items.size items.size hi=items.size))
  (h:Q (.ref s.heap.objs.size) { s with heap:=s.heap.push { cls:=.type "tuple",data:=.seq ((items.toList.drop (sIx items.size 0 lo)).take (sIx items.size items.size hi-sIx items.size 0 lo)).toArray } })
  (hsz:items.size<=sizeLine):Au (AA prog w) A (getItem (.ref t) (.ref sl)) Q E s:=by
 have htake:sizeOk (.seq ((items.toList.drop (sIx items.size 0 lo)).take (sIx items.size items.size hi-sIx items.size 0 lo)).toArray):=by show ((items.toList.drop (sIx items.size 0 lo)).take (sIx items.size items.size hi-sIx items.size 0 lo)).toArray.size<=sizeLine;rw[Ap,AX,Bh,AG];lia
 have hj:sIx items.size items.size hi<=items.size:=zl3 _ _ (Ai _) hi;obtain⟨os,hos,hcs,hds⟩:=id hs;have hTs:s.TypeIs (.ref sl) "slice":=⟨os,hos,hcs⟩;unfold getItem
 try with_reducible refine By ?_
 first |refine Ad (An ?_) |skip
 refine Ad (wpAny_sequenceKey ht.typeIs (by decide) ?_)
 refine Ad (wpAny_callSpecial?_slot (name:=BW "__getitem__") ht.typeIs Bw
  (wpAny_call_entry Bw ht.typeIs entry_tuple_getitem ?_ (args_tuple_getitem _ _)))
 show Au _ _ (Builtin.Tuple.tupleItemsOf (.ref t) >>= _) _ _ s;refine Ad (tupleItemsOf_ ht ?_);refine Ad (wpAny_typeOf hTs ?_);rw[if_pos (by decide)];refine Ad (zcg hs pl pu ?_)
 have hno:¬ ((((sIx items.size 0 lo:Nat):Int) == 0 && (1:Int) == 1 && (sIx items.size items.size hi-sIx items.size 0 lo) == items.size)=true):=by intro q;rw[Cp,Cp]at q;have q1:((sIx items.size 0 lo:Nat):Int)=0:=eq_of_beq q.1.1;have q2:sIx items.size items.size hi-sIx items.size 0 lo=items.size:=eq_of_beq q.2;exact hw ⟨by lia,by lia⟩
 show Au _ _ (if (((sIx items.size 0 lo:Nat):Int) == 0 && (1:Int) == 1 && (sIx items.size items.size hi-sIx items.size 0 lo) == items.size)=true then _ else _) _ _ s;rw[if_neg hno,zj7]
 first
  |exact Ad (m:=CL _) (BM (An ⟨_,rfl,An h⟩) htake)
  |exact Ad (m:=CL _) (BM (Ad (An (An ⟨_,rfl,An h⟩))) htake)
  |exact Ad (Ad (m:=CL _) (BM (An (An ⟨_,rfl,An h⟩)) htake))
  |exact Ad (Ad (m:=CL _) (BM (An ⟨_,rfl,An h⟩) htake))
end
end HT
namespace L2
open PySem PySem.Spec PyProof.Rows
noncomputable abbrev TO:=St->Hp->(Option Int->Hp->Prop)->Prop
noncomputable def PO(X:Cx)(e:Option Expr)(t:TO):Prop :=
 ∀(pins:List (Addr×Obj)) (s:Ab) (σ:St) (H:Hp) (Q:Option Int->Hp->Prop),Inv X pins σ H s->t σ H Q ->
  Au (AA X.prog X.w) X.A (evalPart e X.env) (λu s'=>∃o H',Inv X pins σ H' s'/\IsPart u o/\Q o H') X.xe s
noncomputable def zk9:TO:=λ_ H Q=>Q none H
noncomputable def tPart(t:TE):TO:=λσ H Q=>t σ H λx H1=>∃i,x=.int i/\Q (some i) H1
theorem zbC{ns:List Int}:∀{us:List Value},Vals (ns.map V.int) us->Cd us ns:=by
 induction ns with
 |nil=>intro us r;rw[List.map_nil]at r;cases r;exact .nil
 |cons n ns ih =>
  intro us r;rw[Cc]at r
  cases r with
  |cons r1 r2 =>
   obtain⟨t,e⟩:=r1;subst e;exact .cons n t (ih r2)
section
variable {X:Cx}{e:Expr}{te:TE}{lo hi:Option Expr}{tl th:TO}{pos p2:Pos}
theorem zdW:PO X none zk9:=by intro pins s σ H Q I h;rw[evalPart_none];exact An ⟨none,H,I,.none,h⟩
theorem zcJ(h:PE X e te):PO X (some e) (tPart te):=by
 intro pins s σ H Q I hw;rw[evalPart_some];refine thn (h pins s σ H _ I hw) λu s1 ⟨x,H1,I1,r1,q1⟩=>?_
 obtain⟨i,rfl,q⟩:=q1;obtain⟨t,rfl⟩:=r1;exact⟨some i,H1,I1,.int i t,q⟩
noncomputable def SlR(X:Cx)(r:V->Option Int->Option Int->Hp->VK->Prop):Prop :=
 ∀(pins:List (Addr×Obj)) (s:Ab) (σ:St) (H:Hp) (x:V) (v vl vu:Value) (lo hi:Option Int) (sl:Addr) (Q:VK),Inv X pins σ H s->RelV x v->s.heap.IsSliceOf sl vl vu .none->IsPart vl lo->IsPart vu hi->r x lo hi H Q ->
  ∃T id,typeLookup (.type T) "__getitem__" = pure (some (.builtin id))/\s.TypeIs v T/\Au (AA X.prog X.w) X.A (getItem v (.ref sl)) (EP X pins σ Q) X.xe s
noncomputable def tSl(r:V->Option Int->Option Int->Hp->VK->Prop)(te:TE)(tl th:TO):TE:=λσ H Q=>te σ H λx H1=>tl σ H1 λl H2=>th σ H2 λu H3=>r x l u H3 Q
theorem zcv{r:V->Option Int->Option Int->Hp->VK->Prop}(hr:SlR X r)(he:PE X e te)(hl:PO X lo tl)(hu:PO X hi th):PE X (.Subscript e (.Slice lo hi none p2) pos) (tSl r te tl th):=by
 intro pins s σ H Q I h;refine Subscript_ (thn (he pins s σ H _ I h) λv s1 ⟨x,H1,I1,r1,q1⟩=>?_);refine wpAny_Slice (thn (hl pins s1 σ H1 _ I1 q1) λvl s2 ⟨l,H2,I2,pl,q2⟩=>thn (hu pins s2 σ H2 _ I2 q2) λvu s3 ⟨u,H3,I3,pu,q3⟩=>?_);rw[evalPart_none];refine An ?_
 have I4:Inv X pins σ H3 { s3 with heap:=s3.heap.push { cls:=.type "slice",data:=.fields #[vl,vu,.none] } }:=I3.kept (t':=s3.toks) λb ob q=>Al _ q
 obtain⟨T,id,hT,ht,hg⟩:=hr pins { s3 with heap:=s3.heap.push { cls:=.type "slice",data:=.fields #[vl,vu,.none] } } σ H3 x v vl vu l u s3.heap.objs.size Q I4 r1 (Heap.IsSliceOf.new ..) pl pu q3;show Au (AA X.prog X.w) X.A (subscriptTail e (.Slice lo hi none p2) v (.ref s3.heap.objs.size)) (EP X pins σ Q) X.xe { s3 with heap:=s3.heap.push { cls:=.type "slice",data:=.fields #[vl,vu,.none] } };exact tail_any (ops:=[.ref s3.heap.objs.size,v]) ht hT hg (by with_unfolding_all rfl)
noncomputable def cutV(xs:List V)(lo hi:Option Int):List V:=(xs.drop (HT.sIx xs.length 0 lo)).take (HT.sIx xs.length xs.length hi-HT.sIx xs.length 0 lo)
theorem zeg(xs:List V)(lo hi:Option Int):(cutV xs lo hi).length<=xs.length:=by unfold cutV;rw[AX,Bh];lia
noncomputable def rSlT(K:W.Frag):V->Option Int->Option Int->Hp->VK->Prop:=λx lo hi H Q=>∃a xs,x=.ref a/\SqT K H a xs /\
 ¬ (HT.sIx xs.length 0 lo=0/\HT.sIx xs.length xs.length hi=xs.length)/\∀p,H p=none->Q (.ref p) (upd H p (.tup (cutV xs lo hi)))
theorem zlX:SlR X (rSlT X.K):=by
 intro pins s σ H x v vl vu lo hi sl Q I rx hs pl pu h;obtain⟨a,xs,rfl,hx,hw,q⟩:=h
 cases rx
 obtain⟨its,r,ht,hz⟩:=I.tuple hx;have hlen:its.toArray.size=xs.length:=by rw[Ap];exact r.length.symm
 refine⟨"tuple",_,Bw.lookup,ht.typeIs,?_⟩;refine HT.getItem_tuple_cut ht hs pl pu (by rw[hlen];exact hw) ?_ (by rw[hlen];exact hz)
 rw[hlen];refine⟨.ref s.heap.objs.size,_,I.laid (t':=s.toks) (o:=.tup (cutV xs lo hi)) (λb ob q=>Al _ q) (Ai _) ?_,rfl,q _ (I.hok.fresh (Ai _))⟩;exact⟨Bf (zeg xs lo hi) hz,_,(r.drop (HT.sIx xs.length 0 lo)).take (HT.sIx xs.length xs.length hi-HT.sIx xs.length 0 lo),IsTup.new _ _⟩
noncomputable def rLtT(K:W.Frag):R2:=λx y H Q=>∃a b ns ms,x=.ref a/\y=.ref b/\SqT K H a (ns.map V.int)/\SqT K H b (ms.map V.int)/\Q (.bl (HT.lexLt ns ms)) H
theorem zmb(hu:X.A.units<cLine):OpR X (Bu .Lt) (rLtT X.K):=by
 intro pins s σ H x y v u Q I rx ry h;obtain⟨a,b,ns,ms,rfl,rfl,ha,hb,q⟩:=h
 cases rx
 cases ry
 obtain⟨its,r1,p1,_⟩:=I.tuple ha;obtain⟨its2,r2,p2,_⟩:=I.tuple hb;have i1:Cd its.toArray.toList ns:=zbC r1;have i2:Cd its2.toArray.toList ms:=zbC r2;exact HT.lt_tupInts p1 p2 i1 i2 hu ⟨.bl (HT.lexLt ns ms),H,I,rfl,q⟩
noncomputable def rCatT(K:W.Frag):R2:=λx y H Q=>∃a b xs ys,x=.ref a/\y=.ref b/\SqT K H a xs/\SqT K H b ys/\xs≠[]/\xs.length+ys.length<=sizeLine /\
 (ys=[]->Q (.ref a) H)/\(ys≠[]->∀p,H p=none->Q (.ref p) (upd H p (.tup (xs++ys))))
theorem Vals.nil_iff{xs:List V}{us:List Value}(r:Vals xs us):us=[] ↔ xs=[]:=by
 cases r with
 |nil=>simp
 |cons _ _=>simp
theorem zjf:OpR X (CD .Add) (rCatT X.K):=by
 intro pins s σ H x y v u Q I rx ry h;obtain⟨a,b,xs,ys,rfl,rfl,ha,hb,hx,hz,q1,q2⟩:=h
 cases rx
 cases ry
 obtain⟨its,r1,p1,_⟩:=I.tuple ha;obtain⟨its2,r2,p2,_⟩:=I.tuple hb;refine HT.cat_tup p1 p2 (λz=>hx (r1.nil_iff.mp z)) (λz=>⟨.ref a,H,I,rfl,q1 (r2.nil_iff.mp z)⟩) (λz=>?_) (by rw[<- r1.length,<- r2.length];exact hz);refine⟨.ref s.heap.objs.size,_,I.laid (t':=s.toks) (o:=.tup (xs++ys)) (λb ob q=>Al _ q) (Ai _) ?_,rfl,q2 (λw=>z (r2.nil_iff.mpr w)) _ (I.hok.fresh (Ai _))⟩;exact⟨by rw[Af];exact hz,_,r1.append r2,IsTup.new _ _⟩
end
noncomputable def ixN(n:Nat)(i:Int):Option Nat:=if 0<=i then (if i<n then some i.toNat else none) else if -(n:Int)<=i then some (i+n).toNat else none
noncomputable def atI{α:Type}(xs:List α)(i:Int):Option α:=(ixN xs.length i).bind λj=>xs[j]?
theorem zjA{n:Nat}{i:Int}{j:Nat}(h:ixN n i=some j):seqIndex? i n=some j/\j<n/\-(n:Int)<=i/\i<n:=by
 unfold ixN at h
 by_cases h0:0<=i
 .rw[if_pos h0]at h
  by_cases h1:i<n
  .rw[if_pos h1]at h;have e:i.toNat=j:=AW h;exact⟨by rw[seqIndex_of h0 h1,e],by lia,by lia,h1⟩
  .rw[if_neg h1]at h;cases h
 .rw[if_neg h0]at h
  by_cases h1:-(n:Int)<=i
  .rw[if_pos h1]at h;have e:(i+n).toNat=j:=AW h;exact⟨by rw[seqIndex_neg (by lia) h1,e],by lia,h1,by lia⟩
  .rw[if_neg h1]at h;cases h
theorem zjT{α:Type}{xs:List α}{i:Int}{v:α}(h:atI xs i=some v):∃j,seqIndex? i xs.length=some j/\xs[j]?=some v/\j<xs.length/\-(xs.length:Int)<=i/\i<xs.length:=by
 unfold atI at h
 cases e:ixN xs.length i with
 |none=>rw[e]at h;cases h
 |some j =>
  rw[e]at h;obtain⟨h1,h2,h3,h4⟩:=zjA e;exact⟨j,h1,h,h2,h3,h4⟩
theorem zai{α:Type}{xs:List α}{j:Nat}{v:α}(h:xs[j]?=some v):atI xs (j:Int)=some v:=by
 have hj:j<xs.length:=(Ac.mp h).1
 have e:ixN xs.length (j:Int)=some j:=by unfold ixN;rw[if_pos (by lia),if_pos (by lia)];simp
 unfold atI;rw[e];exact h
noncomputable def zlM(b:Expr):Prop:=∀o i,subscripted b false o i=operate [o,i] (getItem o i)
noncomputable def IxR(X:Cx)(r:R2):Prop :=
 ∀(value slice:Expr) (pins:List (Addr×Obj)) (s:Ab) (σ:St) (H:Hp) (x y:V) (v u:Value) (Q:VK),Inv X pins σ H s->RelV x v->RelV y u->r x y H Q ->
  subscripted slice false v u=operate [v,u] (getItem v u)->Au (AA X.prog X.w) X.A (subscriptTail value slice v u) (EP X pins σ Q) X.xe s
noncomputable def MtR(X:Cx)(id:String)(r:V->List V->Hp->VK->Prop):Prop :=
 ∀(pins:List (Addr×Obj)) (s:Ab) (σ:St) (H:Hp) (x:V) (xs:List V) (v:Value) (us:List Value) (Q:VK),Inv X pins σ H s->RelV x v->Vals xs us->r x xs H Q ->
  Au (AA X.prog X.w) X.A (call (.builtin id) (v::us)) (EP X pins σ Q) X.xe s
section
variable {X:Cx}{a b:Expr}{ta tb:TE}{pos:Pos}
theorem pe_ix{r:R2}(hr:IxR X r)(ha:PE X a ta)(hb:PE X b tb)(hs:zlM b):PE X (.Subscript a b pos) (tOp r ta tb):=by intro pins s σ H Q I h;exact Subscript_ (binT ha hb I h λv u s2 x y H2 I2 rx ry q=>hr a b pins s2 σ H2 x y v u Q I2 rx ry q (hs _ _))
noncomputable def rIxL(K:W.Frag):R2:=λx y H Q=>∃p xs i v,x=.ref p/\y=.int i/\SqL K H p xs/\atI xs i=some v/\Q v H
noncomputable def rIxT(K:W.Frag):R2:=λx y H Q=>∃p xs i v,x=.ref p/\y=.int i/\SqT K H p xs/\atI xs i=some v/\Q v H
theorem zaE:IxR X (rIxL X.K):=by
 intro value slice pins s σ H x y v u Q I rx ry h hs;obtain⟨p,xs,i,z,rfl,rfl,hq,he,q⟩:=h
 cases rx
 obtain⟨t,rfl⟩:=ry;obtain⟨its,r,pl,hz⟩:=I.list hq;obtain⟨j,h1,h2,h3,h4,h5⟩:=zjT he;obtain⟨w,ew,rw'⟩:=r.get h2;have hl:=r.length;have hn:=zgr;have fin:EP X pins σ Q w s:=⟨z,H,I,rw',q⟩
 by_cases h0:0<=i
 .have hj:i.toNat=j := by rw[seqIndex_of h0 h5]at h1;exact AW h1
  exact item_listR pl.isList h0 (by lia) (by rw[hj];simpa using ew) fin hs
 .have hj:(i + (its.toArray.size:Int)).toNat=j := by rw[seqIndex_neg (by lia) h4]at h1;rw[Ap,<- hl];exact AW h1
  exact subscriptTail_builtinR (x:=w) pl.isList.typeIs slot_list_getitem.lookup
   (wpAny_getItem_list_neg (Q:=λr s'=>r=w/\EP X pins σ Q r s') pl.isList (by lia) (by rw[Ap] <;> lia) (by lia) (by rw[hj];simpa using ew) ⟨rfl,fin⟩) hs
theorem zat:IxR X (rIxT X.K):=by
 intro value slice pins s σ H x y v u Q I rx ry h hs;obtain⟨p,xs,i,z,rfl,rfl,hq,he,q⟩:=h
 cases rx
 obtain⟨t,rfl⟩:=ry;obtain⟨its,r,pl,hz⟩:=I.tuple hq;obtain⟨j,h1,h2,h3,h4,h5⟩:=zjT he;obtain⟨w,ew,rw'⟩:=r.get h2;have hl:=r.length;have hn:=zgr;have fin:EP X pins σ Q w s:=⟨z,H,I,rw',q⟩
 exact subscriptTail_builtinR (x:=w) pl.typeIs slot_tuple_getitem.lookup
  (getItem_tuple (j:=j) (Q:=λr s'=>r=w/\EP X pins σ Q r s') pl (by lia) (by lia) (by rw[Ap,<- hl];exact h1) (by simpa using ew) ⟨rfl,fin⟩) hs
theorem zik (its:List Value) (n j:Nat) (u:Value):A0 (·.setIfInBounds j u) { cls:=.type "list",data:=.seq its.toArray n }={ cls:=.type "list",data:=.seq (its.set j u).toArray n }:=by simp[A0]
theorem Inv.lst{pins:List (Addr × Obj)}{σ : St}{H:Hp}{s:Ab}{p:Addr}{xs:List V}(I:Inv X pins σ H s)(h:H p=some (.lst xs)) :
  ∃(its:List Value) (n:Nat),Vals xs its/\s.heap.get? p=some { cls:=.type "list",data:=.seq its.toArray n }/\xs.length<=sizeLine:=by
 obtain⟨z,its,n,r,e⟩:=I.hok p _ h;exact⟨its,n,r,e,z⟩
theorem Inv.lstUpd{pins:List (Addr × Obj)}{σ : St}{H:Hp}{s:Ab}{p:Addr}{xs ys:List V}{its its':List Value}{n n':Nat}{f:Obj -> Obj}(I:Inv X pins σ H s)(h:H p=some (.lst xs))
  (ho:s.heap.get? p=some { cls:=.type "list",data:=.seq its.toArray n }) (hf:f { cls:=.type "list",data:=.seq its.toArray n }={ cls:=.type "list",data:=.seq its'.toArray n' }) (r:Vals ys its') (hz:ys.length<=sizeLine) (t:Nat) :
  Inv X pins σ (upd H p (.lst ys)) { s with heap:=s.heap.update p f,toks:=t }:=by
 have e:(s.heap.update p f).get? p=some { cls:=.type "list",data:=.seq its'.toArray n' }:=by rw[Heap.get?_update_self f ho (by rw[hf] <;> rfl),hf]
 refine I.write (x:=p) (e:=p) (by rw[h];trivial) (.inl rfl) (λb u hb q=>(CW _ _ (B8 hb)).trans q) ⟨_,e⟩ ?_
 exact⟨hz,its',n',r,e⟩
noncomputable def rSetL:V->V->V->Hp->(Hp->Prop)->Prop:=λo i v H Q=>∃p xs k j,o=.ref p/\i=.int k/\H p=some (.lst xs)/\ixN xs.length k=some j/\Q (upd H p (.lst (xs.set j v)))
theorem zhx:PSet X rSetL:=by
 intro pins s σ H o i v ov iv u Q I ro ri rv h;obtain⟨p,xs,k,j,rfl,rfl,hp,hj,q⟩:=h
 cases ro
 obtain⟨t,rfl⟩:=ri;obtain⟨its,n,r,ho,hz⟩:=I.lst hp;obtain⟨h1,h2,h3,h4⟩:=zjA hj;have hl:=r.length;have hn:=zgr
 have I':Inv X pins σ (upd H p (.lst (xs.set j v))) { s with heap:=s.heap.update p (A0 (·.setIfInBounds j u)) } :=
  I.lstUpd hp ho (zik its n j u) (r.set rv j) (by rw[List.length_set];exact hz) s.toks
 by_cases h0:0<=k
 .have hk:k.toNat=j := by rw[seqIndex_of h0 h4]at h1;exact AW h1
  exact W.ki_setAt ho h0 (by lia) (by rw[Ap,<- hl];exact h4) (by rw[hk];exact⟨_,I',q⟩)
 .have hk:(k + (its.toArray.size:Int)).toNat=j := by rw[seqIndex_neg (by lia) h3]at h1;rw[Ap,<- hl];exact AW h1
  exact W.ki_setBack ho (by lia) (by rw[Ap,<- hl];exact h3) (by lia) (by rw[hk];exact⟨_,I',q⟩)
theorem zf6(lo hi:Option Int)(n:Nat):(DH lo hi none n).1=((HT.sIx n 0 lo:Nat):Int)/\(DH lo hi none n).2.1=((HT.sIx n n hi:Nat):Int)/\(DH lo hi none n).2.2=1:=by
 refine⟨?_,?_,rfl⟩
 .cases lo with
  |none=>simp[DH,HT.sIx]
  |some i =>
   simp only[DH,HT.sIx,Option.getD_none,show (1:Int) > 0 by decide,if_true]
   by_cases h:i<0
   .simp only[h,if_true] <;> lia
   .simp only[h,if_false] <;> lia
 .cases hi with
  |none=>simp[DH,HT.sIx]
  |some i =>
   simp only[DH,HT.sIx,Option.getD_none,show (1:Int) > 0 by decide,if_true]
   by_cases h:i<0
   .simp only[h,if_true] <;> lia
   .simp only[h,if_false] <;> lia
theorem ze8(its:List Value)(lo hi:Option Int):slicePick its.toArray lo hi none=((its.drop (HT.sIx its.length 0 lo)).take (HT.sIx its.length its.length hi-HT.sIx its.length 0 lo)).toArray:=by obtain⟨h1,h2,h3⟩:=zf6 lo hi its.toArray.size;unfold slicePick;rw[h1,h2,h3];simp only[sliceRange_one,pick_run,Ap] <;> rfl
noncomputable def rSlL(K:W.Frag):V->Option Int->Option Int->Hp->VK->Prop:=λx lo hi H Q=>∃a xs,x=.ref a/\SqL K H a xs/\∀p,H p=none->Q (.ref p) (upd H p (.lst (cutV xs lo hi)))
theorem ziP:SlR X (rSlL X.K):=by
 intro pins s σ H x v vl vu lo hi sl Q I rx hs pl pu h;obtain⟨a,xs,rfl,hx,q⟩:=h
 cases rx
 obtain⟨its,r,ht,hz⟩:=I.list hx;have hlen:=r.length;refine⟨"list",_,slot_list_getitem.lookup,ht.isList.typeIs,?_⟩;refine wpAny_getItem_list_slice ht.isList hs pl pu .none (by simp) ?_ (by rw[Ap] <;> lia)
 rw[ze8,<- hlen];refine⟨.ref s.heap.objs.size,_,I.laid (t':=s.toks) (o:=.lst (cutV xs lo hi)) (λb ob q=>Al _ q) (Ai _) ?_,rfl,q _ (I.hok.fresh (Ai _))⟩;exact⟨Bf (zeg xs lo hi) hz,_,0,(r.drop (HT.sIx xs.length 0 lo)).take (HT.sIx xs.length xs.length hi-HT.sIx xs.length 0 lo),AU _ rfl⟩
noncomputable def flatV:V->Bool
 |.non=>true
 |.bl _=>true
 |.int _=>true
 |.str _=>true
 |_=>false
noncomputable def eqV:V->V->Bool
 |.non,.non=>true
 |.bl a,.bl b=>a == b
 |.bl a,.int b=>(if a then 1 else 0) == b
 |.int a,.bl b=>a == (if b then 1 else 0)
 |.int a,.int b=>a == b
 |.str a,.str b=>a == b
 |_,_=>false
theorem zmp{A:AQ}{s:Ab}{y x:V}{u v:Value}(ry:RelV y u)(rx:RelV x v)(fy:flatV y=true)(fx:flatV x=true):SeqAt.EqAt A s u v (eqV y x):=by
 cases y with
 |non =>
  cases ry
  cases x with
  |non=>cases rx;exact SeqAt.EqAt.same _
  |bl b=>cases rx;exact SeqAt.EqAt.none_bool b
  |int b=>obtain⟨t,rfl⟩:=rx;exact SeqAt.EqAt.none_int b t
  |str b=>obtain⟨t,rfl⟩:=rx;exact SeqAt.EqAt.none_str b t
  |_=>exact absurd (show false=true from fx) Aw
 |bl a =>
  cases ry
  cases x with
  |non=>cases rx;exact SeqAt.EqAt.bool_none a
  |bl b=>cases rx;exact SeqAt.EqAt.bool_bool a b
  |int b=>obtain⟨t,rfl⟩:=rx;exact SeqAt.EqAt.bool_int a b t
  |str b=>obtain⟨t,rfl⟩:=rx;exact SeqAt.EqAt.bool_str a b t
  |_=>exact absurd (show false=true from fx) Aw
 |int a =>
  obtain⟨t',rfl⟩:=ry
  cases x with
  |non=>cases rx;exact SeqAt.EqAt.int_none a t'
  |bl b=>cases rx;exact SeqAt.EqAt.int_bool a t' b
  |int b=>obtain⟨t,rfl⟩:=rx;exact SeqAt.EqAt.int_int a t' b t
  |str b=>obtain⟨t,rfl⟩:=rx;exact SeqAt.EqAt.int_str a t' b t
  |_=>exact absurd (show false=true from fx) Aw
 |str a =>
  obtain⟨t',rfl⟩:=ry
  cases x with
  |non=>cases rx;exact SeqAt.EqAt.str_none a t'
  |bl b=>cases rx;exact SeqAt.EqAt.str_bool a t' b
  |int b=>obtain⟨t,rfl⟩:=rx;exact SeqAt.EqAt.str_int a t' b t
  |str b=>obtain⟨t,rfl⟩:=rx;exact SeqAt.EqAt.str_str a t' b t
  |_=>exact absurd (show false=true from fx) Aw
 |_=>exact absurd (show false=true from fy) Aw
noncomputable def eqU(x:V)(u:Value):Bool:=match u with
 |.none=>eqV .non x
 |.bool b=>eqV (.bl b) x
 |.int i _=>eqV (.int i) x
 |.str z _=>eqV (.str z) x
 |_=>false
theorem zkX{x y:V}{u:Value}(r:RelV y u)(f:flatV y=true):eqU x u=eqV y x:=by
 cases y with
 |non=>cases r;rfl
 |bl b=>cases r;rfl
 |int i=>obtain⟨t,rfl⟩:=r;rfl
 |str z=>obtain⟨t,rfl⟩:=r;rfl
 |_=>exact absurd (show false=true from f) Aw
theorem zek{x:V}:∀{xs:List V}{us:List Value},Vals xs us->xs.all flatV=true->us.any (eqU x)=xs.any λy=>eqV y x
 |_,_,.nil,_=>rfl
 |y::xs,u::us,.cons r t,f=>by
  rw[List.all_cons,Cp]at f;rw[C8,C8,zkX r f.1,zek t f.2]
theorem zcY{A:AQ}{s:Ab}{x:V}{v:Value}(rx:RelV x v)(fx:flatV x=true):∀{xs:List V}{us:List Value},Vals xs us->xs.all flatV=true->∀u∈us,SeqAt.EqAt A s u v (eqU x u)
 |_,_,.nil,_=>λu hu=>by cases hu
 |y::xs,u::us,.cons r t,f=>λu' hu=>by
  rw[List.all_cons,Cp]at f;rcases Av.mp hu with rfl |hu
  .rw[zkX r f.1];exact zmp r rx f.1 fx
  .exact zcY rx fx t f.2 u' hu
noncomputable def inV(x:V)(xs:List V):Bool:=xs.any λy=>eqV y x
noncomputable def rIn(K:W.Frag)(neg:Bool):R2:=λx y H Q=>∃p xs,y=.ref p/\(SqL K H p xs∨SqT K H p xs)/\flatV x=true/\xs.all flatV=true/\Q (.bl (if neg then !inV x xs else inV x xs)) H
theorem zje:OpR X (Bu .In) (rIn X.K false):=by
 intro pins s σ H x y v u Q I rx ry h;obtain⟨p,xs,rfl,hq,fx,fs,q⟩:=h
 cases ry
 rcases hq with hq |hq
 .obtain⟨its,r,pl,hz⟩:=I.list hq;refine SeqAt.in_listAt (eqU x) pl.isList (λw hw=>zcY rx fx r fs w (by simpa using hw)) ⟨.bl _,H,I,rfl,?_⟩;rw[show its.toArray.any (eqU x)=its.any (eqU x) by simp,zek r fs];exact q
 .obtain⟨its,r,pl,hz⟩:=I.tuple hq;refine SeqAt.in_tupleAt (eqU x) pl (λw hw=>zcY rx fx r fs w (by simpa using hw)) ⟨.bl _,H,I,rfl,?_⟩;rw[show its.toArray.any (eqU x)=its.any (eqU x) by simp,zek r fs];exact q
theorem zgd:OpR X (Bu .NotIn) (rIn X.K true):=by
 intro pins s σ H x y v u Q I rx ry h;obtain⟨p,xs,rfl,hq,fx,fs,q⟩:=h
 cases ry
 rcases hq with hq |hq
 .obtain⟨its,r,pl,hz⟩:=I.list hq;refine SeqAt.notIn_listAt (eqU x) pl.isList (λw hw=>zcY rx fx r fs w (by simpa using hw)) ⟨.bl _,H,I,rfl,?_⟩;rw[show its.toArray.any (eqU x)=its.any (eqU x) by simp,zek r fs];exact q
 .obtain⟨its,r,pl,hz⟩:=I.tuple hq;refine SeqAt.notIn_tupleAt (eqU x) pl (λw hw=>zcY rx fx r fs w (by simpa using hw)) ⟨.bl _,H,I,rfl,?_⟩;rw[show its.toArray.any (eqU x)=its.any (eqU x) by simp,zek r fs];exact q
theorem zaK:CallR X (.builtin "len") (λxs H Q=>∃p ys,xs=[.ref p]/\(SqL X.K H p ys∨SqT X.K H p ys)/\Q (.int ys.length) H):=by
 intro pins s σ H xs us Q I r h;obtain⟨p,ys,rfl,hq,q⟩:=h;obtain⟨u,rfl,rx⟩:=vals1 r
 cases rx
 have hn:=zgr;rcases hq with hq |hq
 .obtain⟨its,r',pl,hz⟩:=I.list hq;have hlen:=r'.length;exact Calls.call_len_list pl.isList (by simp only[Ap] <;> lia) ⟨.int ys.length,H,I.tok _,⟨s.toks+1,by rw[Ap,hlen]⟩,q⟩
 .obtain⟨its,r',pl,hz⟩:=I.tuple hq;have hlen:=r'.length;exact len_tuple pl (by simp only[Ap] <;> lia) ⟨.int ys.length,H,I.tok _,⟨s.toks+1,by rw[Ap,hlen]⟩,q⟩
theorem zcd:CallR X (.type "tuple") (λxs H Q=>∃p ys,xs=[.ref p]/\((SqL X.K H p ys/\∀l,H l=none->Q (.ref l) (upd H l (.tup ys)))∨(SqT X.K H p ys/\Q (.ref p) H))):=by
 intro pins s σ H xs us Q I r h;obtain⟨p,ys,rfl,h⟩:=h;obtain⟨u,rfl,rx⟩:=vals1 r
 cases rx
 rcases h with⟨hq,q⟩ |⟨hq,q⟩
 .obtain⟨its,r',pl,hz⟩:=I.list hq;have hlen:=r'.length;refine call_tuple_list pl.isList (λh' kp=>?_) (by simp only[Ap] <;> lia);have I1:Inv X pins σ H { s with heap:=h' }:=I.kept (t':=s.toks) kp
  have I2:Inv X pins σ (upd H h'.objs.size (.tup ys)) { s with heap:=h'.push { cls:=.type "tuple",data:=.seq its.toArray } } :=
   I1.laid (t':=s.toks) (λb o e=>Al _ e) (Ai _) (show ObjOk X.prog X.w _ _ _ (.tup ys) from ⟨hz,its,r',IsTup.new _ _⟩)
  exact⟨.ref h'.objs.size,_,I2,rfl,q _ (I1.hok.fresh (Ai _))⟩
 .obtain⟨its,r',pl,hz⟩:=I.tuple hq;exact call_tuple_same pl ⟨.ref p,H,I,rfl,q⟩
noncomputable def tyV(K:W.Frag)(T:String)(x:V)(H:Hp):Prop:=match x with
  |.str _=>T = "str"
  |.int _=>T = "int"
  |.ref p => (T = "list" /\ ∃xs, SqL K H p xs) ∨ (T = "tuple" /\ ∃o, K.lookup p=some o /\ o.cls = .type "tuple" /\ o.dict=none) ∨
      (T = "dict" /\ ((∃kvs,H p=some (.dK kvs))∨∃kvs,H p=some (.dT kvs)))∨(T = "set" /\ ∃S n,H p=some (.set S n))
  |_=>False
theorem zlQ{pins:List (Addr × Obj)}{σ : St}{H:Hp}{s:Ab}{T:String}{x:V}{v:Value}(I:Inv X pins σ H s)(r:RelV x v)(ty:tyV X.K T x H) :
  s.TypeIs v T/\∀a,v=.ref a->∃ob,s.heap.get? a=some ob/\ob.dict=none:=by
 cases x with
 |str z =>
  obtain⟨t,rfl⟩:=r
  cases (show T = "str" from ty)
  exact⟨typeIs_str s z t,λ_ e=>nomatch e⟩
 |int i =>
  obtain⟨t,rfl⟩:=r
  cases (show T = "int" from ty)
  exact⟨typeIs_int s i t,λ_ e=>nomatch e⟩
 |ref p =>
  cases r
  rcases ty with⟨rfl,xs,hq⟩ |⟨rfl,o,hk,hc,hd⟩ |⟨rfl,hk⟩ |⟨rfl,S,n,hk⟩
  .obtain⟨its,_,pl,_⟩:=I.list hq;refine⟨pl.isList.typeIs,λa e=>?_⟩
   cases e
   obtain⟨o,n,e,c,hd,_⟩:=pl;exact⟨o,e,hd⟩
  .refine⟨⟨o,I.kIn p o hk,hc⟩,λa e=>?_⟩
   cases e
   exact⟨o,I.kIn _ o hk,hd⟩
  .have z:∃o, s.heap.get? p=some o /\ o.ExactDict := by
    rcases hk with⟨kvs,hk⟩ |⟨kvs,hk⟩
    .obtain⟨_,_,_,_,o,_,_,e,ex,_⟩:=I.hok p _ hk;exact⟨o,e,ex⟩
    .obtain⟨_,_,_,_,o,_,_,e,ex,_⟩:=I.hok p _ hk;exact⟨o,e,ex⟩
   obtain⟨o,e,ex⟩:=z;refine⟨⟨o,e,ex.1⟩,λa e2=>?_⟩
   cases e2
   exact⟨o,e,ex.2.1⟩
  .obtain⟨o,_,_,_,e,ex,_⟩:=I.hok p _ hk;refine⟨⟨o,e,ex.1⟩,λa e2=>?_⟩
   cases e2
   exact⟨o,e,ex.2.1⟩
 |_=>exact BI ty
noncomputable def tBM(K:W.Frag)(T:String)(r:V->List V->Hp->VK->Prop)(to:TE)(t:TA):TE:=λσ H Q=>to σ H λx H1=>tyV K T x H1/\t σ H1 λxs H2=>r x xs H2 Q
variable {o e:Expr}{es:List Expr}{to:TE}{t:TA}{name:Str}{apos cpos:Pos}{T id:String}{r:V->List V->Hp->VK->Prop}
theorem pe_bm (pa:PlainAttrs T) (slot:Slot T name id) (hty:typeOf (.builtin id)=pure (.type "method_descriptor")) (hm:MtR X id r) (ho:PE X o to) (ha:PA X (e :: es) t)
  (hbase:attributeBase o name X.env (eval o X.env)=eval o X.env:=by rfl)
  (hfew:((backTo cpos (Bl (e::es) X.env)).all (λx=>!x.1) && (Dr cpos (Co [] X.env)).all (λx=>x.1.isSome)
   && decide ((e::es).length+([]:List Keyword).length+(if ([]:List Keyword).isEmpty then 0 else 1)<30))=true:=by rfl)
  (hline:(apos.endLine == cpos.line)=true:=by rfl) (hs:Bl (e::es) X.env=(false,eval e X.env)::Bl es X.env:=by rfl) (hplain:(backTo cpos (Bl es X.env)).any (·.1)=false:=by rfl) :
  PE X (.Call (.Attribute o name apos) (e::es) [] cpos) (tBM X.K T r to t):=by
 intro pins s σ H Q I h;refine wpAny_Call_method_late hbase hfew hline rfl (thn (ho pins s σ H _ I h) λv s1 ⟨x,H1,I1,r1,ty,q1⟩=>?_);obtain⟨h1,h2⟩:=zlQ I1 r1 ty;refine⟨T,id,pa,slot,hty,h1,h2,?_⟩;have hA:=ha cpos pins s1 σ H1 _ I1 q1;rw[hs]at hA ⊢;refine Calls.callWith_builtin (by show (false || (backTo cpos (Bl es X.env)).any (·.1))=false;rw[hplain] <;> rfl) (Calls.evalArgs_plain ?_);exact thn hA λus s2 ⟨vs,H2,I2,r2,q2⟩=>hm pins s2 σ H2 x vs v us Q I2 r1 r2 q2
/- xs.append(e),list.index on a module's tuple .. are MtR facts of 06m -/
end
noncomputable def MtM(X:Cx)(id:String)(r:V->List V->Hp->VK->Prop):Prop :=
 ∀(pins:List (Addr×Obj)) (s:Ab) (σ:St) (H:Hp) (x:V) (xs:List V) (v:Value) (us:List Value) (Q:VK),Inv X pins σ H s->RelV x v->Vals xs us->r x xs H Q ->
  Au (AA X.prog X.w) X.A (call (.builtin id) (v::us)) (EP X pins σ Q) X.xe s
theorem Vals.one:∀{x:V}{us:List Value},Vals [x] us->∃u,us=[u]/\RelV x u
 |_,_,.cons r .nil=>⟨_,rfl,r⟩
theorem Vals.rep{xs:List V}{us:List Value}(h:Vals xs us):∀k:Nat,Vals (Ae k xs).flatten (Ae k us).flatten
 | 0=>.nil
 |k+1=>by
  rw[BY,BY,Ch,Ch];exact Vals.append h (Vals.rep h k)
theorem zgA(its:List Value):∀(k:Nat) (acc:List Value),
  List.foldl (λx1 x2=>x1++x2) acc.toArray (Ae k its.toArray)=(acc++(Ae k its).flatten).toArray
 | 0,acc=>by simp
 |k+1,acc=>by
  have e:acc.toArray++its.toArray=(acc++its).toArray:=by simp
  have e2:(acc++its)++(Ae k its).flatten=acc++(Ae (k+1) its).flatten:=by rw[BY,Ch,AC]
  rw[<- e2,<- zgA its k (acc++its),<- e,BY,List.foldl_cons]
section
variable {X:Cx}{pins:List (Addr×Obj)}{σ:St}{H:Hp}{s:Ab}{l b:Addr}{xs ys zs:List V}
theorem Inv.lset{its its':List Value}{n:Nat}{f:Array Value -> Array Value}{t':Nat}(I:Inv X pins σ H s)(hH:H l=some (.lst xs))
  (e:s.heap.get? l=some { cls:=.type "list",data:=.seq its.toArray n }) (hf:f its.toArray=its'.toArray) (hv:Vals ys its') (hz:ys.length<=sizeLine) :
  Inv X pins σ (upd H l (.lst ys)) { s with heap:=s.heap.update l (A0 f),toks:=t' }:=by
 have q:=PySem.IsL.update e f;rw[hf]at q;refine I.write (x:=l) (e:=l) (by rw[hH];exact trivial) (.inl rfl) (λb' u hb hu=>(CW s.heap (A0 f) (B8 hb)).trans hu) ⟨_,q⟩ ?_
 exact⟨hz,its',_,hv,q⟩
theorem Inv.lnew{its:List Value}{t':Nat}(I:Inv X pins σ H s)(hv:Vals ys its)(hz:ys.length <= sizeLine) :
  Inv X pins σ (upd H s.heap.objs.size (.lst ys)) { s with heap:=s.heap.push { cls:=.type "list",data:=.seq its.toArray },toks:=t' } :=
 I.laid (λ_ _ q=>Al _ q) (Ai _) ⟨hz,its,0,hv,AU _ rfl⟩
theorem Inv.fresh(I:Inv X pins σ H s):H s.heap.objs.size=none:=I.hok.fresh (Ai _)
theorem Inv.lstM (I:Inv X pins σ H s) (hH:H l=some (.lst xs)):xs.length<=sizeLine/\∃(its:List Value) (n:Nat),Vals xs its/\xs.length=its.length/\s.heap.get? l=some { cls:=.type "list",data:=.seq its.toArray n }:=by obtain⟨z,its,n,r,e⟩:=I.hok l _ hH;exact⟨z,its,n,r,r.length,e⟩
theorem zhH{n:Nat}(h:n<=sizeLine):CM n=false:=by unfold CM;exact decide_eq_false (by lia)
end
section
variable {X:Cx}
noncomputable def zlk:V->List V->Hp->VK->Prop:=λx vs H Q=>∃l xs y,x=.ref l/\vs=[y]/\H l=some (.lst xs)/\xs.length<sizeLine/\Q .non (upd H l (.lst (xs++[y])))
theorem zaP:MtM X "list.append" zlk:=by
 intro pins s σ H x vs v us Q I rx rv h;obtain⟨l,xs,y,rfl,rfl,hH,hz,q⟩:=h
 cases rx
 obtain⟨u,rfl,ru⟩:=rv.one;obtain⟨z,its,n,r,hl,e⟩:=I.lstM hH;refine call_meets F.slot_list_append ⟨_,e,rfl⟩ F.entry_list_append (F.args_list_append_2 _ _) (PySem.list_append l its.toArray n u (by rw[Ap];lia)) ⟨e,?_⟩;refine⟨.non,_,I.lset (its':=its++[u]) hH e (by simp) (r.append (.cons ru .nil)) ?_,rfl,q⟩;rw[Af,BR];lia
noncomputable def zlj:V->List V->Hp->VK->Prop:=λx vs H Q=>∃l b xs zs,x=.ref l/\vs=[.ref b]/\H l=some (.lst xs)/\H b=some (.lst zs)/\xs.length+zs.length<=sizeLine/\Q .non (upd H l (.lst (xs++zs)))
theorem zgn:MtM X "list.extend" zlj:=by
 intro pins s σ H x vs v us Q I rx rv h;obtain⟨l,b,xs,zs,rfl,rfl,hH,hB,hz,q⟩:=h
 cases rx
 obtain⟨u,rfl,ru⟩:=rv.one
 cases ru
 obtain⟨z,its,n,r,hl,e⟩:=I.lstM hH;obtain⟨z2,its2,n2,r2,hl2,e2⟩:=I.lstM hB;have hsz:its.toArray.size+its2.toArray.size<=sizeLine:=by rw[Ap,Ap];lia
 have hlong:¬ (!its.toArray.isEmpty && CM (its.toArray.size+its2.toArray.size))=true:=by rw[zhH hsz,Bool.and_false];exact Aw
 refine call_meets F.slot_list_extend ⟨_,e,rfl⟩ F.entry_list_extend (F.args_list_extend_2 _ _)
  (AutoSeq1.list_extend_list_list_0 l its.toArray n b its2.toArray n2 hlong (by rw[Ap];lia) (by lia)) ⟨e,e2,?_⟩
 refine⟨.non,_,I.lset (its':=its++its2) hH e (by simp) (r.append r2) ?_,rfl,q⟩;rw[Af];lia
noncomputable def rCat:R2:=λx y H Q=>∃l b xs zs,x=.ref l/\y=.ref b/\H l=some (.lst xs)/\H b=some (.lst zs)/\xs.length+zs.length<=sizeLine/\∀p,H p=none->Q (.ref p) (upd H p (.lst (xs++zs)))
theorem zkP:OpR X (CD .Add) rCat:=by
 intro pins s σ H x y v u Q I rx ry h;obtain⟨l,b,xs,zs,rfl,rfl,hH,hB,hz,q⟩:=h
 cases rx
 cases ry
 obtain⟨z,its,n,r,hl,e⟩:=I.lstM hH;obtain⟨z2,its2,n2,r2,hl2,e2⟩:=I.lstM hB;refine PySem.P.add_list e e2 ?_ (by rw[Ap,Ap];lia)
 have ea:its.toArray++its2.toArray=(its++its2).toArray:=by simp
 rw[ea];exact⟨.ref _,_,I.lnew (t':=s.toks) (r.append r2) (by rw[Af];lia),rfl,q _ I.fresh⟩
noncomputable def rRep:R2:=λx y H Q=>∃l k xs,x=.ref l/\y=.int k/\H l=some (.lst xs)/\-(2 ^ 63)<=k/\k<2 ^ 63/\xs.length*k.toNat<=sizeLine /\
 ∀p,H p=none->Q (.ref p) (upd H p (.lst (Ae k.toNat xs).flatten))
theorem zlz{α:Type}(xs:List α)(k:Nat):(Ae k xs).flatten.length=k*xs.length:=by
 induction k with
 |zero=>simp
 |succ k ih=>rw[BY,Ch,Af,ih,Nat.succ_mul,Nat.add_comm]
theorem zkN:OpR X (CD .Mult) rRep:=by
 intro pins s σ H x y v u Q I rx ry h;obtain⟨l,k,xs,rfl,rfl,hH,h1,h2,hz,q⟩:=h
 cases rx
 obtain⟨t,rfl⟩:=ry;obtain⟨z,its,n,r,hl,e⟩:=I.lstM hH;have hlen:its.toArray.size*k.toNat<=sizeLine:=by rw[Ap,<- hl];exact hz
 have hcap:¬ its.toArray.size*k.toNat > (2 ^ 63-1) / 8:=by
  have:(sizeLine:Nat)<=(2 ^ 63-1) / 8:=by decide
  lia
 have hfit:¬ (!Builtin.List.listFitsIndex k)=true:=by rw[fitsIndex_both h1 h2];exact Aw
 have hlong:¬ CM (its.toArray.size*k.toNat)=true:=by rw[zhH hlen];exact Aw
 have hnew:List.foldl (λx1 x2=>x1++x2) #[] (Ae (if its.toArray.isEmpty=true then 0 else k.toNat) its.toArray)=(Ae k.toNat its).flatten.toArray:=by
  have f0:∀m:Nat,List.foldl (λx1 x2=>x1++x2) #[] (Ae m its.toArray)=(Ae m its).flatten.toArray:=λm=>by have:=zgA its m [];rw[B7]at this;exact this
  rw[f0]
  cases its with
  |nil=>simp
  |cons a r'=>rw[if_neg (by simp)]
 refine wpAny_binaryOp_repeat_ref (T:="list") (U:="int") (by decide) ⟨_,e,rfl⟩ (λs'=>typeIs_int s' k t) noFill_list_mul F.fills_int_mul F.slot_int_rmul repeat_list F.slot_int_index.lookup
  (call_meets F.slot_int_rmul (typeIs_int s k t) F.entry_int_rmul (F.args_int_rmul_2 _ _) (int___rmul___int_list k t l its.toArray n)
   ⟨e,rfl,⟨_,e,rfl⟩,call_meets F.slot_list_mul ⟨_,e,rfl⟩ F.entry_list_mul (F.args_list_mul_2 _ _) (AutoListH.list___mul___list_int_3 l its.toArray n k t hfit hcap hlong) ⟨e,?_⟩⟩)
 rw[hnew];exact⟨.ref _,_,I.lnew (t':=s.toks) (r.rep k.toNat) (by rw[zlz,Nat.mul_comm];exact hz),rfl,q _ I.fresh⟩
end
section
variable {prog:AF}{w:A4}{A:AQ}{E:Value->Ab->Prop}{s:Ab}
end
section
variable {X:Cx}
end
end L2
namespace Att
open PySem PySem.W PySem.Calls PyProof.Rows
theorem zd9{P:Params}{h:Heap}:∀(ns:List Int) (vs:List Value),WellAll P h vs (ns.map WData.int)->Cd vs ns:=by
 intro ns
 induction ns with
 |nil =>
  intro vs w;rw[List.map_nil]at w
  cases w
  exact .nil
 |cons n ns ih =>
  intro vs w;rw[Cc]at w
  cases w with
  |cons a b =>
   cases a
   exact .cons _ _ (ih _ b)
theorem ziR{l:OpenLaw}{n:Nat}(hn:l.most=some n){P:Params}{h:Heap}{args:List WData}{vals:List Value}
  (hpre:l.row.toRowW.claim.pre args=true) (hwl:WellAll P h vals args) :
  ∃a vs ns,vals=[At a]/\args=[WData.list (ns.map WData.int)]/\h.get? a=some { cls:=.type "list",data:=.seq vs.toArray }/\Cd vs ns/\ns.length<=n:=by
 have hsh:WShape.hasAll [] args [.list .int]=true:=(pre_splitW hpre).1;have hc:l.pre.holds [] { args:=args }=true:=(pre_splitW hpre).2;obtain⟨d,r,rfl,h1,h2⟩:=hasAllW_cons hsh;obtain rfl:=hasAllW_nil h2;obtain⟨xs,rfl,h3⟩:=hasW_list h1;obtain⟨ns,rfl⟩:=items_int h3
 have hlen:ns.length<=n:=by
  unfold OpenLaw.pre at hc
  have h4:(WTm.not (.lt (.lit (.int (n:Int))) (.len (.arg 0)))).holds [] { args:=[.list (ns.map .int)] }=true:=by have h4:=(holds_andW hc).1;rw[hn]at h4;exact h4
  have h5:=condW_of h4 (w_not (w_lt w_lit (w_len_list (w_arg rfl))));rw[Am]at h5;refine Nat.le_of_not_lt λq=>?_
  have q':(n:Int)<((ns.length:Nat):Int):=by lia
  first
   | (rw[decide_eq_true q']at h5;exact absurd h5 (by decide))
   | (simp at h5;lia)
 cases hwl with
 |cons w1 w2 =>
  cases w2
  cases w1 with
  |list ho hall=>exact⟨_,_,ns,rfl,rfl,ho,zd9 ns _ hall,hlen⟩
theorem zi8(l:OpenLaw)(args:List WData):l.row.toRowW.claim.post args (.bool true) args=true :=
 postW_of (r:=l.row.toRowW) (X:=(true == true))
  (show WShape.has [] (.bool true) .bool=true by first |rfl |decide |simp[WShape.has,WShape.arms,WShape.armsAll])
  (show (WTm.eq .res (.lit (.bool true))).value [] { args:=args,res:=some (.bool true),after:=args }=some (.bool (true == true)) from w_eq_bool (w_res rfl) w_lit) rfl
theorem attach_call{l:OpenLaw}{n:Nat}{q:AF}{loose:List Str}{XP:(Str -> Option Value) -> Heap -> Prop}{YP:A4 -> Heap -> Prop}{d:DefRec}
  (hn:l.most=some n) (hdf:d.params.defaults=[])
  (call:∀(w:A4) (s₀ s₁:Ab) (mg mb:Str->Option Value) (fa:Addr) (o:Obj) (pm cd doc:Value) (a:Addr) (vs:List Value) (ns:List Int),
   Ground q loose [] XP w s₀ mg mb s₁.heap->YP w s₁.heap ->
   s₁.heap.get? fa=some o->o.data=.func (docDef d.name d.params d.body d.scope pm cd doc)->s₁.heap.CodeRec cd d.name->mg d.name=some (.ref fa) ->
   s₁.heap.get? a=some { cls:=.type "list",data:=.seq vs.toArray }->Cd vs ns->ns.length<=n->s₁.gens=#[] ->
   CF (AA l.prog w) callerA (.call (.ref fa) ⟨[.ref a],[]⟩) (λr s'=>r=.ok (.ret (.bool true))/\OldK s₁.heap s'.heap/\s'.os=s₁.os/\AllBare s'.gens) s₁) :
  WalkO q loose XP YP l.row.toRowW d [] (λf vs=>PySem.call f vs):=by
 intro w s₀ s₁ mg mb G Y fa o pm cd doc dV kV ho hd hcd hD hmg hg args vals as hpre hlay hrd hwl hlo;obtain rfl:dV=.none:=Dflts.none hD hdf;obtain rfl:kV=.none:=Dflts.noKw hD;obtain⟨a,vs,ns,rfl,rfl,hobj,hints,hlen⟩:=ziR hn hpre hwl;refine enter_call (codeAny_mono (call w s₀ s₁ mg mb fa o pm cd doc a vs ns G Y ho (fd_plain hd) hcd hmg hobj hints hlen hg) λr s' hq=>?_);obtain⟨rfl,h2,h3,h4⟩:=hq;exact⟨.inl ⟨.bool true,.bool true,[],rfl,λ_=>rfl,.bool true,zi8 l _,λ_=>⟨List.Pairwise.nil,λ_ hm=>(nomatch hm)⟩⟩,h2,h3,h4⟩
section
variable {prog:AF}{w:A4}{A:AQ}{E:Value->Ab->Prop}{s:Ab}{K:Frag}
noncomputable def zmz(h:Heap)(L d:Addr):List (Addr×Obj):=(BD h.objs.size).filterMap λa=>if a=L∨a=d then none else (h.get? a).map λo=>(a,o)
end
end Att
namespace L2
open PySem PySem.Spec PyProof.Rows
theorem zfX:∀{vs:List Value}{ns:List Int},Cd vs ns->Vals (ns.map V.int) vs
 |_,_,.nil=>.nil
 |_,_,.cons n t h=>.cons ⟨t,rfl⟩ (zfX h)
noncomputable def Only(H:Hp):Prop:=∀b,H b=none∨∃o xs,H b=some (.frz o (.lst xs))
theorem zkk{P:AF}{w:A4}{K:W.Frag}{mg mb:Str -> Option Value}{CX:CXT}{k:Nat}{fa a:Addr}{fd:Bv}{x:Str}{sp:Sp}{s₁ : Ab}{vs:List Value}{ns:List Int}
    (KX:K.In s₁.heap) (hns:s₁.heap.Ns AN mg) (hb:s₁.heap.Ns builtinsNs mb) (hbb:∀x:Str,x ≠ "__name__" -> mb x=bootBuiltins x) (hlim:s₁.heap.NoLimit) (hg:s₁.gens=#[])
    (ha:s₁.heap.get? a=some { cls:=.type "list",data:=.seq vs.toArray }) (hi:Cd vs ns) (hl:ns.length<=sizeLine) (hr:Room k callerA)
    (F:∀base:Heap,K.In base->base.Ns AN mg->FnOk P w K mg base CX k fa fd [x] sp) (hbind:∀(s:Ab) (u:Value),BindsTo s fd ⟨[u],[]⟩ [(x,u)])
    (hsp:∀H:Hp,Only H->SqL K H a (ns.map V.int)->sp [.ref a] H (λv _=>v=.bl true) λ_ _ _=>False)
    (hCX:∀H e s',CX [] H s₁ (λ_ _ _=>False) e s'->False) :
    CF (AA P w) callerA (.call (.ref fa) ⟨[.ref a],[]⟩) (λr s'=>r=.ok (.ret (.bool true))/\OldK s₁.heap s'.heap/\s'.os=s₁.os/\AllBare s'.gens) s₁:=by
  have rv:=zfX hi;have lenV:=hi.length
  have core:∀H:Hp, Only H -> SqL K H a (ns.map V.int) -> HOk P w H s₁.heap -> (∀b, H b ≠ none -> b=a) -> (H a ≠ none -> K.lookup a=none) ->
      CF (AA P w) callerA (.call (.ref fa) ⟨[.ref a],[]⟩) (λr s'=>r=.ok (.ret (.bool true))/\OldK s₁.heap s'.heap/\s'.os=s₁.os/\AllBare s'.gens) s₁:=by
    intro H hO hS hok hA hK;have base_of:∀{b:Addr} {o:Obj},s₁.heap.get? b=some o->H b=none->(hidT s₁.heap H).get? b=some o:=λe n=>zkn e n
    have noA:∀{b:Addr} {o:Obj} {es:Array DictEntry} {ep:Nat},s₁.heap.get? b=some o->o.data=.dict es ep->H b=none:=λ{b o es ep} e d=>by
      cases q:H b with
      |none=>rfl
      |some u =>
        have e':b=a:=hA b (by rw[q];simp);subst e';rw[ha]at e;cases e;have d':Data.seq vs.toArray _=Data.dict es ep:=d
        cases d'
    have nsK:∀{b:Addr} {m:Str->Option Value},s₁.heap.Ns b m->(hidT s₁.heap H).Ns b m:=λ{b m} ⟨o,es,ep,e,d,r⟩=>⟨o,es,ep,base_of e (noA e d),d,r⟩
    have hKb:K.In (hidT s₁.heap H):=λb o e=>base_of (KX b o e) (by
      cases q:H b with
      |none=>rfl
      |some u =>
        have e':b=a:=hA b (by rw[q];simp);subst e';rw[hK (by rw[q];simp)]at e;cases e)
    have hM:Mod K mg (hidT s₁.heap H):=⟨hKb,nsK hns,⟨mb,nsK hb,hbb⟩,let ⟨mc,h1,h2⟩:=hlim;⟨mc,nsK h1,h2⟩⟩;have e0:Env0 P w K mg (hidT s₁.heap H) callerA [] s₁ H:=⟨rfl,hM,λb o e=>zlw e,Nat.le_of_eq (zjD _ _),trivial,λb hb=>absurd (show b∈([]:List Addr) from hb) (by simp),hok,.of_eq hg⟩;refine codeAny_mono ((F _ hKb (nsK hns)).run callerA [] s₁ H ⟨[.ref a],[]⟩ [.ref a] [.ref a] _ _ hr e0 (hbind s₁ (.ref a)) (.cons rfl .nil) (hsp H hO hS)) λr s' h=>?_
    cases r with
    |error e=>exact (hCX H e s' h).elim
    |ok fl =>
      cases fl with
      |next=>exact BI h
      |brk=>exact BI h
      |cont=>exact BI h
      |ret u =>
        obtain⟨v,H',os,bare,un,hok',r',q⟩:=h;have q':v=.bl true:=q;subst q';obtain rfl:u=Dy true:=r';refine⟨rfl,OldK.of_keep λb o e=>?_,os,bare⟩
        cases q:H b with
        |none=>exact un.keep b o e q (by intro z;exact absurd (show b∈([]:List Addr) from z) (by simp)) (by simp)
        |some u =>
          rcases hO b with z |⟨ob,xs,z⟩
          . rw[q]at z;cases z
          . have z2:=un.frzs b ob _ z;obtain⟨e1,_⟩:=hok b _ z;obtain⟨e2,_⟩:=hok' b _ z2;rw[e]at e1;cases e1;exact e2
  cases hk:K.lookup a with
  |some o =>
    have e:=KX a o hk;rw[ha]at e
    cases e
    refine core (λ_=>none) (λ_=>.inl rfl) (.inr ⟨_,vs.toArray,_,hk,rfl,rfl,rfl,by rw[Ap,lenV];exact hl,by simpa using rv⟩) (λb u z=>by have z':(none:Option HO)=some u:=z;cases z') (λb z=>absurd rfl z) λz=>absurd rfl z
  |none =>
    refine core (λb=>if b=a then some (.frz { cls:=.type "list",data:=.seq vs.toArray } (.lst (ns.map V.int))) else none) (λb=>?_) (.inl (.inr ⟨{ cls:=.type "list",data:=.seq vs.toArray },if_pos rfl⟩)) (λb u z=>?_) (λb z=>?_) λ_=>hk
    . by_cases hb:b=a
      . exact .inr ⟨_,_,if_pos hb⟩
      . exact .inl (if_neg hb)
    . by_cases hb:b=a
      . have z':=(if_pos hb).symm.trans z
        cases z'
        subst hb;exact⟨ha,by rw[Am];exact hl,vs,_,rv,ha⟩
      . have z':=(if_neg hb).symm.trans z
        cases z'
    . by_cases hb:b=a
      . exact hb
      . exact absurd (if_neg hb) z
noncomputable abbrev KOf{K:W.Frag}{h:Heap}(_:K.In h):W.Frag:=K
theorem walk_of{l:W.OpenLaw}{n k:Nat}{q:AF}{loose:List Str}{XP:(Str -> Option Value) -> Heap -> Prop}{YP:A4 -> Heap -> Prop}{d:DefRec}{K:Params -> W.Frag}{CX:A4 -> CXT}{sp:A4 -> Sp}{x:Str}
  (hn:l.most=some n) (hn2:n<=sizeLine) (hdf:d.params.defaults=[]) (hr:Room k callerA)
  (hY:∀(w:A4) (h:Heap),YP w h->(K w.params).In h)
  (F:∀(w:A4) (mg:Str->Option Value) (fa:Addr) (h:Heap),(K w.params).In h->h.Ns AN mg->mg d.name=some (.ref fa) ->
   ∃fd:Bv,(∀(s:Ab) (u:Value),BindsTo s fd ⟨[u],[]⟩ [(x,u)]) /\
    ∀base:Heap,(K w.params).In base->base.Ns AN mg->FnOk l.prog w (K w.params) mg base (CX w) k fa fd [x] (sp w))
  (hsp:∀(w:A4) (H:Hp) (a:Addr) (ns:List Int),ns.length<=n->Only H->SqL (K w.params) H a (ns.map V.int)->sp w [.ref a] H (λv _=>v=.bl true) λ_ _ _=>False)
  (hCX:∀(w:A4) (H:Hp) (s:Ab) (e:Value) (s':Ab),CX w [] H s (λ_ _ _=>False) e s'->False) :
  W.WalkO q loose XP YP l.row.toRowW d [] (λf vs=>PySem.call f vs):=by
 refine Att.attach_call hn hdf λw s₀ s₁ mg mb fa o pm cd doc a vs ns G Y ho hd hcd hmg hobj hints hlen hg=>?_
 have KX:=hY w _ Y;obtain⟨fd,hb,hF⟩:=F w mg fa _ KX G.T.g hmg;exact zkk KX G.T.g G.T.b G.T.builtins G.T.nolimit hg hobj hints (Bf hlen hn2) hr hF hb (λH hO hS=>hsp w H a ns hlen hO hS) λH e s'=>hCX w H s₁ e s'
end L2
/- THE LAST THEOREM (shape; LID, My.* are yours):
  My.Adr: a structure of the addresses that your layer names (classes,functions);My.Txt K t: a structure (Prop) of the equations over K;
  My.txt_mk:{K} {implicit addresses ..} (e1:nsIn K AN "law" = some (some (.ref f))) (e2:K.lookup f=some ⟨oc,od,.func (fnOf "law" "law" params body scope dV kV doc pm an cdv ct),sl⟩) (e3:codeIn K cdv "law" = true) ..:∃t,My.Txt K t
set_option maxRecDepth 100000 in
set_option maxHeartbeats 0 in
theorem PySem.Challenge.cw_LID_holds : PySem.Challenge.rw_LID.Holds := by
 w_on;o_law;k_head;(case hw=>w_witness2)
 k_fill
 refine L2.walk_of (l:=PySem.Challenge.rw_LID) (n:=63) (k:=40) (x:="script") (CX:=λw=>..) (sp:=λ_=>My.sp_law) rfl (by decide) rfl ⟨rfl,by decide,by decide⟩ (λw h Y=>W.kIn_of Y) ?F ?S ?C
 case F =>
  intro w mg fa h KX G hmg
  have T:∃ t,My.Txt (L2.KOf KX) t:=by
   dsimp only[L2.KOf]                          -- K must stand as «<heap const> w.params» for k_is
   refine' My.txt_mk ?e1 ?e2 ?e3 ..
   (case e1=>W.k_is)                    -- in the order: a name -> its address -> its object -> its parts
   (case e2=>W.k_is)
   ..
  obtain⟨t,T⟩:=T
  have e0:=hmg.symm.trans (W.mg_of KX G T.law)
  cases e0                                       -- fa is the law's own address
  exact⟨_,λs u=>.of_eq rfl,λbase kb nb=>My.law_fn T kb nb⟩     -- if «.of_eq rfl» comes too early: refine' ⟨_,?b,λbase kb nb=>My.law_fn T kb nb⟩;exact λs u=>.of_eq rfl
 case S=>exact λw H a ns hl hO hS=>..
 case C=>exact ..
(the tactic k_is has no namespace: write k_is) -/
namespace L2
open PySem PySem.Spec PyProof.Rows
noncomputable def za2(s:Stmt):Arguments:=match s with
 |.FunctionDef _ a _ _ _ _ _ _ _ _=>a
 |_=>{ posonlyargs:=[],args:=[],vararg:=none,kwonlyargs:=[],kw_defaults:=[],kwarg:=none,defaults:=[] }
noncomputable def zaA(s:Stmt):List Stmt:=match s with
 |.FunctionDef _ _ b _ _ _ _ _ _ _=>b
 |_=>[]
noncomputable def zae(s:Stmt):Scope:=match s with
 |.FunctionDef _ _ _ _ _ _ sc _ _ _=>sc
 |_=>{ kind:=.function,names:=[],isGenerator:=false,isCoroutine:=false }
noncomputable abbrev CX0:CXT:=λ_ _ _ _ _ _=>False
noncomputable abbrev E0:XK:=λ_ _ _=>False
theorem pass0{X:Cx}:zh0 CX0 X E0:=λ_ _ _ _ _ _ _ h=>h.elim
structure Fun (K:W.Frag) (x qual:Str) (st:Stmt) (f:Addr) (fd:Bv):Prop where
 ex:∃(oc:Value) (od:Option Addr) (kV doc pm:Value) (an:Option Addr) (cdv ct:Value) (osl:Array (Option Value)),
  fd=CV x qual (za2 st) (zaA st) (zae st) .none kV doc pm an cdv ct/\K.lookup f=some ⟨oc,od,.func fd,osl⟩/\W.codeIn K cdv qual=true
 kp:Dd K (.ref f)=true
section
variable {P:AF}{w:A4}{K:W.Frag}{mg:Str->Option Value}{base:Heap}
theorem Fun.ok{x qual:Str}{st:Stmt}{f:Addr}{fd:Bv}{N ps:List Str}{k:Nat}{sp:Sp}(F:Fun K x qual st f fd)(S:FnScope N ps (zae st))(len:∀vs H Q E, sp vs H Q E -> vs.length=ps.length)
  (hbody:∀(cdv:Value) (A:AQ) (outer:List Env) (s:Ab) (H:Hp) (vs:List V) (Q:VK) (E:XK),Room k (A.deeper (envOfC qual (zae st) s.heap.objs.size f cdv))->sp vs H Q E ->
   ∃t,PSs (cxOf CX0 P w K mg base N qual (zae st) f cdv A outer s H E).nox (zaA st) t/\t { nx:=λ_ H'=>Q .non H',rt:=Q } (start N vs) H):FnOk P w K mg base CX0 (k+1) f fd ps sp:=by
 obtain⟨oc,od,kV,doc,pm,an,cdv,ct,osl,rfl,lk,hcd⟩:=F.ex;refine fn_of lk hcd S len λA outer s H vs Q E hr hsp=>?_
 obtain⟨t,h,q⟩:=hbody cdv A outer s H vs Q E hr hsp;exact⟨t,h.nox,q⟩
theorem Fun.binds{x qual:Str}{st:Stmt}{f:Addr}{fd:Bv}{ps:List Str}(F:Fun K x qual st f fd)
  (h:∀(kV doc pm:Value) (an:Option Addr) (cdv ct:Value) (us:List Value),us.length=ps.length->De (CV x qual (za2 st) (zaA st) (zae st) .none kV doc pm an cdv ct) ⟨us,[]⟩=pure (ps.zip us)):Binds K fd ps []:=by
 obtain⟨oc,od,kV,doc,pm,an,cdv,ct,osl,rfl,lk,hcd⟩:=F.ex;exact .all (h kV doc pm an cdv ct)
theorem zcq{x qual:Str}{st:Stmt}{f:Addr}{oc:Value}{od an:Option Addr}{osl:Array (Option Value)}{kV doc pm cdv ct:Value}(l:K.lookup f=some ⟨oc, od, .func (CV x qual (za2 st) (zaA st) (zae st) .none kV doc pm an cdv ct), osl⟩)
  (c:W.codeIn K cdv qual=true) (k:Dd K (.ref f)=true):Fun K x qual st f (CV x qual (za2 st) (zaA st) (zae st) .none kV doc pm an cdv ct):=⟨⟨oc,od,kV,doc,pm,an,cdv,ct,osl,rfl,l,c⟩,k⟩
end
theorem hu_of{A:AQ}{k:Nat}(hr:Room k A):A.units+1<cLine:=Bt (Nat.add_le_add_left (by decide:1<=64) _) hr.units
theorem zay{n:Nat}(h:n<=1000):n<sizeLine:=Bt h (by decide)
section
variable {X:Cx}
theorem pv (i:Nat){x:Str}{pos:Pos}(hN:X.N[i]? = some x := by rfl) (hv:Vis X.env.scope x := by first |exact Or.inl rfl |exact Or.inr (Or.inl rfl) |exact Or.inr (Or.inr rfl)) (hd:(x == ("__debug__" : Str))=false := by decide)
  (hcd:(x == ("__classdict__" : Str))=false:=by decide):PE X (.Name x pos) (tVar i):=zl7 hN hv hd hcd
end
theorem iteF{A B:Prop}(h:B):if false=true then A else B:=by rw[if_neg Aw];exact h
theorem iteT{A B:Prop}(h:A):if true=true then A else B:=by rw[if_pos rfl];exact h
theorem ite2{c A B:Prop} [Decidable c](h1:c->A)(h2:¬ c->B):if c then A else B:=by
 by_cases h:c
 .rw[if_pos h];exact h1 h
 .rw[if_neg h];exact h2 h
noncomputable def Same(H H':Hp):Prop:=∀b o,H b=some o->H' b=some o
theorem Same.refl(H:Hp):Same H H:=λ_ _ h=>h
theorem Same.trans{H H1 H2:Hp}(a:Same H H1)(b:Same H1 H2):Same H H2:=λc o h=>b c o (a c o h)
theorem Same.free{H H':Hp}(e:Same H H'){l:Addr}(h:H' l=Option.none):H l=Option.none:=by
 cases q:H l with
 |none=>rfl
 |some o =>
  rw[e l o q]at h
  cases h
theorem Same.seq{K:W.Frag}{H H':Hp}{a:Addr}{xs:List V}(e:Same H H')(h:SqL K H a xs):SqL K H' a xs:=by
 rcases h with (h |⟨o,h⟩) |h
 .exact .inl (.inl (e _ _ h))
 .exact .inl (.inr ⟨o,e _ _ h⟩)
 .exact .inr h
section
variable {κ:Type} [DecidableEq κ]
end
end L2
set_option maxHeartbeats 4000000
namespace L2
open PySem PySem.Spec PyProof.Rows
noncomputable def zch(J:It)(g:TG)(tb:TS):TS:=λD σ H=>∃W:Nat->Nat->St->Hp->Prop,(∃m,W 0 m σ H)/\∀i m σ H,W i m σ H ->
 (J.stop i H/\D.nx σ H)∨(J.go i H/\∃N:St->Hp->Prop,(∀ σ' H',N σ' H'->∃m',m'<m/\W (i+1) m' σ' H')/\∀x H',J.yld i H x H'->g x σ H' λσ2 H2=>tb { D with nx:=N,ct:=N,bk:=D.nx } σ2 H2)
noncomputable def PTs(X:Cx)(ifs:List Expr)(t:TT):Prop :=
 ∀(pins:List (Addr×Obj)) (s:Ab) (σ:St) (H:Hp) (Q:Bool->Hp->Prop),Inv X pins σ H s->t σ H Q ->
  Au (AA X.prog X.w) X.A (forIn ifs true λc r=>if r=true then do let ok <- isTrue c X.env (eval c X.env);pure (ForInStep.yield ok) else pure (ForInStep.yield r)) (TP X pins σ Q) X.xe s
theorem zbq{X:Cx}:PTs X [] (λ_ H Q=>Q true H):=λpins s σ H Q I h=>An ⟨H,I,h⟩
theorem zde{X:Cx}{c:Expr}{t:TT}(hc:PT X c t):PTs X [c] t:=λpins s σ H Q I h=>wpAny_tests_one (hc pins s σ H Q I h)
noncomputable def PB(X:Cx)(inner:Sem Unit)(t:TS):Prop :=
 ∀(pins:List (Addr×Obj)) (s:Ab) (σ:St) (H:Hp) (D:Ends),Inv X pins σ H s->t D σ H->Au (AA X.prog X.w) X.A inner (λ_ s'=>∃ σ' H',Inv X pins σ' H' s'/\D.nx σ' H') X.xe s
noncomputable def tIfs(tt:TT)(tb:TS):TS:=λD σ H=>tt σ H λb H1=>if b=true then tb D σ H1 else D.nx σ H1
theorem zc5{X:Cx}{e tg:Expr}{d:Nat}{ifs:List Expr}{p:Pos}{acc:Value}{inner:Sem Unit}{g:TG}{tt:TT}{tb:TS}{it:Addr}{fp:List Addr}{tn:Nat -> Heap -> Prop}{J:It}
  {pins:List (Addr×Obj)} {s:Ab} {σ:St} {H:Hp} {D:Ends} {R:Result->Ab->Prop}
  (hq:(Code.compLoop e d (.ref it) acc X.env).quiet=true)
  (hden:(AA X.prog X.w).den (.compLoop e d (.ref it) acc X.env)=(compTurn e d (.ref it) acc X.env).onRaise (λx=>do noteFrame x X.env;theTreesLotGoes x))
  (hT:compTurn e d (.ref it) acc X.env=(do
   standAt p
   match <- pyNext (.ref it) with
   |none=>pure (.done .next)
   |some v =>
    Du tg (.ref it) v
    assign tg X.env v
    let mut ok:=true
    for c in ifs do
     if ok then ok <- isTrue c X.env (eval c X.env)
    if ok then
     inner
    again (.compLoop e d (.ref it) acc X.env)))
  (hA:∀(B:AQ) {α:Type} {t:Sem α} {Q:α->Ab->Prop} {E:Value->Ab->Prop} {s:Ab},B=X.A.under (.compLoop e d (.ref it) acc X.env)->Au (AA X.prog X.w) X.A t Q E s->Au (AA X.prog X.w) B t Q E s)
  (hc:X.calm=true) (hx:X.xe=λ_ _=>False) (hg:PG X tg g) (ht:PTs X ifs tt) (hb:PB X inner tb)
  (I:Inv X pins σ H s) (T:Turn X.prog X.w X.K tg J fp it tn) (st:tn 0 s.heap) (f:∀b∈fp,FpOk X pins H b) (W:zch J g (tIfs tt tb) D σ H)
  (hR:∀fl s',(∃ σ' H',Inv X pins σ' H' s'/\(∀b∈fp,H' b=none)/\D.nx σ' H')->R (.ok fl) s') :
  CF (AA X.prog X.w) X.A (.compLoop e d (.ref it) acc X.env) R s:=by
 obtain⟨W,⟨m0,w0⟩,turn⟩:=W;have stat:∀{H':Hp},(∀b∈fp,H' b=none)->∀b∈fp,FpOk X pins H' b:=λhn b hb=>⟨hn b hb,(f b hb).2⟩
 refine codeAny_loop hq (λn s'=>∃i σ' H',Inv X pins σ' H' s'/\tn i s'.heap/\(∀b∈fp,H' b=none)/\W i n σ' H') ?_ m0 ⟨0,σ,H,I,st,λb hb=>(f b hb).1,w0⟩;rintro n s3 ⟨i,σ3,H3,I3,st3,fr3,w3⟩;refine hA _ rfl ?_
 rw[hden];refine wpAny_noted (wpAny_noRaise ?_);rw[hT];refine Ad (CK ?_)
 have nx:∀{α:Type} {t:Sem α} {Q:α->Ab->Prop} {s:Ab},Au (AA X.prog X.w) X.A t Q X.xe s->Au (AA X.prog X.w) X.A t Q (λ_ _=>False) s:=λ{α t Q s} h=>by rw[hx]at h;exact h
 rcases turn i n σ3 H3 w3 with⟨stop,qn⟩ |⟨go,N,hN,step⟩
 .refine Ad (thn (T.done X rfl rfl rfl hc i pins s3 σ3 H3 _ I3 (stat fr3) st3 stop) λr s4 ⟨hr,I4⟩=>?_);subst hr;exact An (hR _ _ ⟨σ3,H3,I4,fr3,qn⟩)
 .refine Ad (thn (T.item X rfl rfl rfl hc i pins s3 σ3 H3 _ I3 (stat fr3) st3 go) λr s4 ⟨u,hr,h4⟩=>?_);subst hr;refine Ad (thn h4 λ_ s5 ⟨x,H5,I5,r5,y5,st5,fr5⟩=>?_);have I5':=I5.pinned (stat fr5) (T.obj _ _ st5)
  have again:∀{σ7:St} {H7:Hp} {s7:Ab},Inv X (pins++zdn fp s5.heap) σ7 H7 s7->N σ7 H7->∃m,m<n/\∃i σ' H',Inv X pins σ' H' s7/\tn i s7.heap/\(∀b∈fp,H' b=none)/\W i m σ' H':=λ{σ7 H7 s7} I7 n7=>by obtain⟨m',hm,w7⟩:=hN σ7 H7 n7;refine⟨m',hm,i+1,σ7,H7,I7.unpinned,T.keep _ _ _ st5 λb hb o e=>(I7.pin (b,o) (Ak _ (Ak _ (za1 hb e)))).1,λb hb=>?_,w7⟩;obtain⟨o,e,d⟩:=T.obj _ _ st5 b hb;exact (I7.pin (b,o) (Ak _ (Ak _ (za1 hb e)))).2.1
  refine Ad (thn (nx (hg _ s5 σ3 H5 x u _ I5' r5 (step x H5 y5))) λ_ s6 ⟨σ6,H6,I6,q6⟩=>?_);refine Ad (thn (nx (ht _ s6 σ6 H6 _ I6 q6)) λok s7 ⟨H7,I7,q7⟩=>?_)
  cases ok with
  |false =>
   exact An ⟨rfl,again I7 q7⟩
  |true =>
   refine Ad (thn (nx (hb _ s7 σ6 H7 _ I7 q7)) λ_ s8 ⟨σ8,H8,I8,q8⟩=>?_);exact An ⟨rfl,again I8 q8⟩
noncomputable abbrev blk(X:Cx)(sc:Scope)(cl:List (Str×Addr))(C:Addr)(N':List Str)(s0:Ab)(H0:Hp)(ex:List Addr):Cx :=
 { X with N:=N',s₀:=s0,H₀:=H0,env:=CP sc cl C X.env,outer:=X.stack,stack:=X.stack,ex:=ex,fn:=λ_=>false,pn:=[],xe:=λ_ _=>False }
structure BlkOk (osc:Scope) (N:List Str) (sc:Scope) (N':List Str) (sel:List (Option Nat)):Prop where
 kind:sc.kind=.function
 nocell:∀y∈sc.names,y.2≠.cell
 names:∀y∈sc.names,y.2=.local->sc.names.lookup y.1=some .local
 free:∀y∈sc.names,y.2=.free->osc.names.lookup y.1=some .cell∨osc.names.lookup y.1=some .free
 len:sel.length=N'.length
 sel:∀p∈sel.zip N',∀i∈p.1,N[i]?=some p.2/\sc.names.lookup p.2=some .free
noncomputable def selSt(sel:List (Option Nat))(σ:St):St:=sel.map λo=>o.bind λi=>(σ[i]?).join
theorem zcP{env:Env} : ∀(names:List (Str × NameKind)) (acc:List (Str × Addr)), (∀y ∈ names, y.2 = .free -> ∃c, env.cells.lookup y.1=some c) ->
  ∃cl,(forIn names acc λ(x:Str×NameKind) (r:List (Str×Addr))=>(if (x.2 == .free)=true then do let c <- cellOf env x.1;pure (ForInStep.yield ((x.1,c)::r)) else pure (ForInStep.yield r):Sem (ForInStep (List (Str×Addr)))))=pure cl /\
   (∀x c,cl.lookup x=some c->acc.lookup x=some c∨(env.cells.lookup x=some c/\(x,Bq)∈names))/\(∀y∈names,y.2=.free->∃c,cl.lookup y.1=some c)/\(∀x c,acc.lookup x=some c->∃c',cl.lookup x=some c')
 |[],acc,_=>⟨acc,rfl,λ_ _ h=>.inl h,(λ_ h=>nomatch h),λx c h=>⟨c,h⟩⟩
 | (n,k)::r,acc,h=>by
  by_cases hk:k=.free
  .subst hk;obtain⟨c,hc⟩:=h (n,.free) AE rfl;obtain⟨cl,e,h1,h2,h3⟩:=zcP r ((n,c)::acc) λy hy=>h y (Az _ hy)
   refine⟨cl,?_,λx c' hx=>?_,λy hy hf=>?_,λx c' hx=>?_⟩
   .rw[List.forIn_cons];have e1:cellOf env n=pure c:=by unfold cellOf;rw[hc]
    simp only[beq_self_eq_true,if_true,e1,pure_bind];exact e
   .rcases h1 x c' hx with q |⟨q,m⟩
    .by_cases hn:x=n
     .subst hn;rw[Bk,beq_self_eq_true]at q
      cases q
      exact .inr ⟨hc,AE⟩
     .have hb:(x == n)=false:=by simpa using hn
      rw[Bk,hb]at q;exact .inl q
    .exact .inr ⟨q,Az _ m⟩
   .rcases Av.mp hy with z |z
    .subst z;exact h3 n c (by rw[Bk,beq_self_eq_true])
    .exact h2 y z hf
   .by_cases hn:x=n
    .subst hn;exact h3 x c (by rw[Bk,beq_self_eq_true])
    .have hb:(x == n)=false:=by simpa using hn
     exact h3 x c' (by rw[Bk,hb];exact hx)
  .obtain⟨cl,e,h1,h2,h3⟩:=zcP r acc λy hy=>h y (Az _ hy)
   refine⟨cl,?_,λx c' hx=>?_,λy hy hf=>?_,h3⟩
   .rw[List.forIn_cons];have hb:(k == Bq)=false:=by simpa using hk
    simp only[hb,CY,if_false,pure_bind];exact e
   .rcases h1 x c' hx with q |⟨q,m⟩
    .exact .inl q
    .exact .inr ⟨q,Az _ m⟩
   .rcases Av.mp hy with z |z
    .subst z;exact absurd hf hk
    .exact h2 y z hf
structure Clo (env:Env) (sc:Scope) (cl:List (Str×Addr)):Prop where
 run:closureFor sc env=pure cl
 old:∀x c,cl.lookup x=some c->env.cells.lookup x=some c/\(x,Bq)∈sc.names
 has:∀y∈sc.names,y.2=.free->∃c,cl.lookup y.1=some c
theorem zhX{X:Cx}{osc:Scope}{N:List Str}{sc:Scope}{N':List Str}{sel:List (Option Nat)}(ok:X.Ok)(B:BlkOk osc N sc N' sel)(ho:X.env.scope=osc):∃cl,Clo X.env sc cl:=by
 have hc:∀y∈sc.names,y.2=.free->∃c,X.env.cells.lookup y.1=some c:=λy hy hf=>ok.has y.1 (by
  show X.env.scope.names.lookup y.1=_∨X.env.scope.names.lookup y.1=_;rw[ho];exact B.free y hy hf)
 obtain⟨cl,e,h1,h2,_⟩:=zcP (env:=X.env) sc.names [] hc;refine⟨cl,?_,λx c h=>?_,h2⟩
 .unfold closureFor;have e':=e;show (do let r <- forIn sc.names [] _;pure r)=_;simp only[bind_pure];exact e'
 .rcases h1 x c h with q |q
  .cases q
  .exact q
theorem zbV{env:Env} : ∀{names:List (Str × NameKind)}{x:Str}{k:NameKind}, (names.map λ(n, k) => if (k == Bq && env.scope.kind == .function && env.kindOf n == some .cell) then (n, C9) else (n, k)).lookup x=some k ->
  ∃k',(x,k')∈names/\(k=k'∨(k=.cell/\k'=.free))
 |[],x,k,h=>nomatch h
 | (n,j)::r,x,k,h=>by
  have ih:=@zbV env r x k;have h:List.lookup x ((if (j == Bq && env.scope.kind == .function && env.kindOf n == some .cell)=true then (n,C9) else (n,j))::_)=some k:=h
  by_cases hx:x=n
  .subst hx
   by_cases hc:(j == Bq && env.scope.kind == .function && env.kindOf x == some .cell)=true
   .rw[if_pos hc,Bk,beq_self_eq_true]at h
    cases h
    refine⟨j,AE,.inr ⟨rfl,?_⟩⟩;simp only[Cp,beq_iff_eq]at hc;exact hc.1.1
   .rw[if_neg hc,Bk,beq_self_eq_true]at h
    cases h
    exact⟨j,AE,.inl rfl⟩
  .have hb:(x == n)=false:=by simpa using hx
   have h':List.lookup x (r.map λ(n,k)=>if (k == Bq && env.scope.kind == .function && env.kindOf n == some .cell) then (n,C9) else (n,k))=some k:=by
    by_cases hc:(j == Bq && env.scope.kind == .function && env.kindOf n == some .cell)=true
    .rw[if_pos hc,Bk,hb]at h;exact h
    .rw[if_neg hc,Bk,hb]at h;exact h
   obtain⟨k',m,e⟩:=ih h';exact⟨k',Az _ m,e⟩
theorem zbM{env:Env} : ∀{names:List (Str × NameKind)}{x:Str}, names.lookup x=some .free ->
  (names.map λ(n,k)=>if (k == Bq && env.scope.kind == .function && env.kindOf n == some .cell) then (n,C9) else (n,k)).lookup x=some .cell ∨
  (names.map λ(n,k)=>if (k == Bq && env.scope.kind == .function && env.kindOf n == some .cell) then (n,C9) else (n,k)).lookup x=some .free
 |[],x,h=>nomatch h
 | (n,j)::r,x,h=>by
  have ih:=@zbM env r x;rw[Bk]at h;show List.lookup x ((if (j == Bq && env.scope.kind == .function && env.kindOf n == some .cell)=true then (n,C9) else (n,j))::_)=_∨List.lookup x ((if (j == Bq && env.scope.kind == .function && env.kindOf n == some .cell)=true then (n,C9) else (n,j))::_)=_
  cases hx:x == n with
  |true =>
   rw[hx]at h
   cases h
   by_cases hc:(Bq == Bq && env.scope.kind == .function && env.kindOf n == some .cell)=true
   .rw[if_pos hc,Bk,hx];exact .inl rfl
   .rw[if_neg hc,Bk,hx];exact .inr rfl
  |false =>
   rw[hx]at h
   by_cases hc:(j == Bq && env.scope.kind == .function && env.kindOf n == some .cell)=true
   .rw[if_pos hc,Bk,hx];exact ih h
   .rw[if_neg hc,Bk,hx];exact ih h
section
variable {X:Cx}{osc:Scope}{N:List Str}{sc:Scope}{N':List Str}{sel:List (Option Nat)}{cl:List (Str×Addr)}{pins:List (Addr×Obj)}{σ:St}{H:Hp}{s:Ab}{fp:List Addr}
theorem zlC{h':Heap}{ob:Obj}{tk:Nat}(B:BlkOk osc N sc N' sel)(ho:X.env.scope=osc)(hN:X.N=N)(Cl:Clo X.env sc cl)(I:Inv X pins σ H s)
    (f:∀b∈fp,FpOk X pins H b) (fo:∀b∈fp,∃o,s.heap.get? b=some o) (hns:h'.Ns s.heap.objs.size (λ_=>none)) (hsb:CU s.heap.objs.size (s.heap.push ob) h') :
    Inv (blk X sc cl s.heap.objs.size N' s H fp) [] (selSt sel σ) H { s with heap:=h',toks:=tk }:=by
  have old:∀b o,s.heap.get? b=some o->h'.get? b=some o:=λb o e=>(hsb.2 b (A9 (AD e))).trans (Al _ e)
  have bel:∀b∈fp,b<s.heap.objs.size:=λb hb=>by obtain⟨o,e⟩:=fo b hb;exact AD e
  have kk:∀x,(CP sc cl s.heap.objs.size X.env).kindOf x=some .cell∨(CP sc cl s.heap.objs.size X.env).kindOf x=some .free->(x,Bq)∈sc.names:=λx hx=>by
    rcases hx with hx |hx
    . obtain⟨k',m,e⟩:=zbV hx;rcases e with e |⟨_,e⟩
      . subst e;exact absurd rfl (B.nocell _ m)
      . subst e;exact m
    . obtain⟨k',m,e⟩:=zbV hx;rcases e with e |⟨e,_⟩
      . subst e;exact m
      . cases e
  refine⟨⟨I.mod, B.kind, I.ok.glob, I.ok.blt, Ai _, λx y c e1 e2 => I.ok.inj x y c (Cl.old x c e1).1 (Cl.old y c e2).1, λx hx => Cl.has _ (kk x hx) rfl, λx c z => absurd z (by intro q; cases q), I.ok.hd, I.ok.frames, .inl rfl,
      λb hb=>⟨A9 (bel b hb),λx c e=>(f b hb).2.2.2.2.1 x c (Cl.old x c e).1⟩,I.bs,Bf I.ok.bsz I.sz,λb o e hb=>?_,λb hb hs=>?_,I.stack,I.stkFree⟩,
    rfl,I.bare,Un.kept old,⟨_,hns,λj x v e1 e2 e3=>?_⟩,λx c e=>?_,I.hok.fresh (Ai _),λx c e=>I.freeC x c (Cl.old x c e).1,λp hp=>absurd (show p∈([]:List (Addr×Obj)) from hp) (by simp),I.hok.kept old,?_⟩
  . rcases (f b hb).2.2.2.1 with z |z
    . exact I.ok.noex b o e z
    . exact absurd (A6 (AD e) (Bf I.ok.bsz z)) (Cn _)
  . obtain⟨_,f1,f2,_⟩:=f b hb;rcases Av.mp (I.stkSub b hs) with z |z
    . exact f1 z
    . exact f2 z
  . have e2':((sel[j]?).map λo => o.bind λi => (σ[i]?).join)=some (some v) := by have:=e2;unfold selSt at this;rw[AI]at this;exact this
    cases hj:sel[j]? with
    |none=>rw[hj]at e2';cases e2'
    |some o =>
      rw[hj]at e2'
      cases o with
      |none=>cases e2'
      |some i =>
        have e4:(σ[i]?).join=some v:=AW e2'
        have e5:σ[i]?=some (some v):=by
          cases q:σ[i]? with
          |none=>rw[q]at e4;cases e4
          |some z=>rw[q]at e4;exact congrArg some e4
        have hz:(some i,x)∈sel.zip N':=by
          refine As (i:=j) ?_
          rw[List.getElem?_zip_eq_some];exact⟨hj,e1⟩
        obtain⟨g1,g2⟩:=B.sel _ hz i rfl;obtain⟨m,hn,hl⟩:=I.loc;have m2:(x,Bq)∈sc.names:=Ck g2
        have k2:X.env.kindOf x=some .cell∨X.env.kindOf x=some .free:=by show X.env.scope.names.lookup x=_∨X.env.scope.names.lookup x=_;rw[ho];exact B.free _ m2 rfl
        have v2:Vis X.env.scope x:=by
          rcases k2 with z |z
          . exact .inr (.inl z)
          . exact .inr (.inr z)
        obtain⟨u,r,l⟩:=hl i x v (by rw[hN];exact g1) e5 v2;refine⟨u,r,?_⟩;rcases l with⟨l,_⟩ |⟨_,c,e6,hc⟩
        . rcases k2 with z |z <;> (rw[l]at z;cases z)
        . obtain⟨c',hc'⟩:=Cl.has _ m2 rfl;have e7:=(Cl.old x c' hc').1;rw[e6]at e7
          cases e7
          exact .inr ⟨zbM g2,c,hc',hc.keeps old⟩
  . obtain⟨v,hc⟩:=I.cell x c (Cl.old x c e).1;exact⟨v,hc.keeps old⟩
  . show (selSt sel σ).length=N'.length;unfold selSt;rw[Am,B.len]
theorem zlK{C:Addr}{H':Hp}{σ':St}{s':Ab}(I:Inv X pins σ H s)(f:∀b∈fp,FpOk X pins H b)(I':Inv (blk X sc cl C N' s H fp) [] σ' H' s'):Inv X pins σ H' s' :=
 I.call' (ch:=fp) I'.os I'.base I'.hok I'.bare λb hb=>by obtain⟨_,f1,_,f3,f4,f5⟩:=f b hb;exact⟨f3,f1,f4,f5⟩
end
section
variable {X:Cx}
noncomputable def zcf(p:Addr)(te:TE):TS:=λD σ H=>te σ H λv H1=>∃xs,H1 p=some (.lst xs)/\xs.length<sizeLine/\D.nx σ (upd H1 p (.lst (xs++[v])))
theorem zjc {p:Addr}{elt:Expr}{te:TE}(he:PE X elt te):PB X (do let _ <- call (.builtin "list.append") [.ref p,<- eval elt X.env]) (zcf p te):=by intro pins s σ H D I h;refine Ad (thn (he pins s σ H _ I h) λv s1 ⟨x,H1,I1,r1,xs,e1,hl,q⟩=>?_);refine Ad (thn (zaP pins s1 σ H1 (.ref p) [x] (.ref p) [v] (λz H2=>D.nx σ H2) I1 rfl (.cons r1 .nil) ⟨p,xs,x,rfl,rfl,e1,hl,q⟩) λu s2 ⟨z,H2,I2,_,q2⟩=>?_);exact An ⟨σ,H2,I2,q2⟩
noncomputable def zhn(p:Addr)(tk tv:TE):TS:=λD σ H=>tk σ H λy H1=>tv σ H1 λv H2=>∃H3,DPut H2 p y v H3/\D.nx σ H3
theorem d_set{pins:List (Addr × Obj)}{σ : St}{H H':Hp}{s:Ab}{a:Addr}{y v:V}{u r:Value}{A:AQ}{E:Value -> Ab -> Prop}{Q:Unit -> Ab -> Prop}(hu:A.units + 1 < cLine)(I:Inv X pins σ H s)(g:DPut H a y v H')(ry:RelV y u)(rv:RelV v r)(h:∀s', Inv X pins σ H' s' -> Q () s') :
  Au (AA X.prog X.w) A (dictSet a u r) Q E s:=by
 rcases g with⟨kvs,k,e,ey,l,eH⟩ |⟨kvs,k,b,e,ey,eb,l,eH⟩
 .subst ey eH;obtain⟨z,hd,vs,rel,dd⟩:=dk_of I.hok e;have hz:vs.length<=sizeLine:=by rw[<- rel.length];exact z
  have hl:(putK kvs k v).length<=sizeLine:=by have:=zaV kvs k v;lia
  refine wpAny_dictSet_pairs (hsz:=hz) (kV_is ry) dd λh' dd' hs=>h _ ?_
  have he:∃q,h'.get? a=some q:=let ⟨q,_,_,hq,_⟩:=dd';⟨q,hq⟩
  exact zee I (by rw[e];exact Cr) hs he (zkZ hl hd (rel.put k rv) dd')
 .subst ey eH
  cases (show u=At b from ry)
  obtain⟨z,hd,xs,rel,dd⟩:=dt_of I.hok e;have hz:xs.length<=sizeLine:=by rw[<- Dp rel];exact z
  have hl:(putK kvs k v).length<=sizeLine:=by have:=zaV kvs k v;lia
  have hr:(tupleKind (zaU X.prog X.w)).room A:=by show A.units<cLine;lia
  refine wpAny_dictSet_heap (hsz:=hz) hr (zeW I.hok eb) dd λh' dd' hs=>h _ ?_
  obtain⟨q,es,ep,hq,h2,h3,h4,_,h5⟩:=dd';refine zee I (by rw[e];exact Cr) hs ⟨q,hq⟩ ⟨hl,hd,_,(rel.put k eb rv).keeps λc ys ec=>?_,q,es,ep,hq,h2,h3,h4,h5⟩;rw[zam (ne_of ec e (λz=>nomatch z))];exact ec
theorem zlr{p:Addr}{kx vx:Expr}{tk tv:TE}(hu:X.A.units + 1 < cLine)(hk:PE X kx tk)(hv:PE X vx tv) :
    PB X (do
        let kv <- eval kx X.env
        let vv <- Dt [kv] (eval vx X.env)
        match At p with
        |.ref d=>do
          standAt { kx.pos with endLine:=vx.pos.endLine,endCol:=vx.pos.endCol }
          Dt [kv,vv] (dictSet d kv vv)
        |_=>unsupported "internal:dictcomp") (zhn p tk tv):=by
  intro pins s σ H D I h;refine Ad (thn (hk pins s σ H _ I h) λkv s1 ⟨y,H1,I1,r1,q1⟩=>?_);refine Ad (By (thn (hv pins s1 σ H1 _ I1 q1) λvv s2 ⟨v,H2,I2,r2,H3,g,q⟩=>?_));refine Ad (CK (By (d_set hu I2 g r1 r2 λs3 I3=>⟨σ,H3,I3,q⟩)))
end
section
variable {X:Cx}{osc:Scope}{N:List Str}{sc:Scope}{N':List Str}{sel:List (Option Nat)}{pos:Pos}{elt kx vx tg iter:Expr}{ifs:List Expr}{wi:TI}{g:TG}{tt:TT}{te tk tv:TE}
noncomputable def InBlk(X:Cx)(sc:Scope)(N':List Str)(P:Cx->Prop):Prop:=∀cl C s0 H0 ex,P (blk X sc cl C N' s0 H0 ex)
theorem zc6{e:Expr}{inner:Env -> Addr -> Sem Unit}{tb:Addr -> TS}{use:Option (Value -> Sem Unit)}{pins:List (Addr × Obj)}{s:Ab}{σ : St}{H:Hp}{J:It}{it:Addr}{fp:List Addr}{tn:Nat -> Heap -> Prop}{o0:HO}{ob:Obj}
    {D:Addr->Ends} {Q:Value->Ab->Prop}
    (B:BlkOk osc N sc N' sel) (ho:X.env.scope=osc) (hN:X.N=N) (hc:X.calm=true)
    (hstart:∀(acc:Value) (env:Env) (R:Result->Ab->Prop) (s:Ab),CF (AA X.prog X.w) X.A (.compLoop e 0 (.ref it) acc env) R s->Au (AA X.prog X.w) X.A (pyIter (.ref it)) (λit' s'=>CF (AA X.prog X.w) X.A (.compLoop e 0 it' acc env) R s') (notedBy (AA X.prog X.w) X.A env λx s'=>R (.error x) s') s->CF (AA X.prog X.w) X.A (.compStart e 0 (.ref it) acc env) R s)
    (hloop:∀cl C s0 H0 ex p pins s σ H Dn R,Inv (blk X sc cl C N' s0 H0 ex) pins σ H s->tn 0 s.heap->(∀b∈fp,FpOk (blk X sc cl C N' s0 H0 ex) pins H b)->zch J g (tIfs tt (tb p)) Dn σ H ->
      (∀fl s',(∃ σ' H',Inv (blk X sc cl C N' s0 H0 ex) pins σ' H' s'/\(∀b∈fp,H' b=none)/\Dn.nx σ' H')->R (.ok fl) s')->CF (AA X.prog X.w) X.A (.compLoop e 0 (.ref it) (.ref p) (CP sc cl C X.env)) R s)
    (I:Inv X pins σ H s) (T:Turn X.prog X.w X.K tg J fp it tn) (st:tn 0 s.heap) (f:∀b∈fp,FpOk X pins H b)
    (hnew:ObjOk X.prog X.w (upd H s.heap.objs.size o0) (s.heap.push ob) s.heap.objs.size o0) (hfree:ob.isFreed=false)
    (h:zch J g (tIfs tt (tb s.heap.objs.size)) (D s.heap.objs.size) (selSt sel σ) (upd H s.heap.objs.size o0))
    (hend:∀C H' s',Inv X pins σ H' s'->FpOk X pins H' C->(∃m,s'.heap.Ns C m)->(∃ σ',(D s.heap.objs.size).nx σ' H')->compPost (AA X.prog X.w) X.A X.xe use Q (.ref s.heap.objs.size) C (.ok .next) s') (tk:Nat)
    (cl:List (Str×Addr)) (Cl:Clo X.env sc cl) (E:Value->Ab->Prop) :
    Au (AA X.prog X.w) X.A (newFunctionEnv sc X.env.globals cl [] X.env.qual none .none (some X.env)) (λcenv s₄ =>
        CF (AA X.prog X.w) X.A (.compStart e 0 (.ref it) (.ref s.heap.objs.size) { cenv with scope:=relabel sc X.env }) (compPost (AA X.prog X.w) X.A X.xe use Q (.ref s.heap.objs.size) cenv.locals) s₄) E { s with heap:=s.heap.push ob,toks:=tk }:=by
  have grow:∀b o,s.heap.get? b=some o->(s.heap.push ob).get? b=some o:=λ_ _ q=>Al _ q
  have I1:Inv X pins σ (upd H s.heap.objs.size o0) { s with heap:=s.heap.push ob,toks:=tk }:=I.laid grow (Ai _) hnew;have bel:∀b∈fp,∃o,s.heap.get? b=some o:=λb hb=>let ⟨o,e,_⟩:=T.obj _ _ st b hb;⟨o,e⟩
  have f1:∀b∈fp,FpOk X pins (upd H s.heap.objs.size o0) b:=λb hb=>by obtain⟨o,e⟩:=bel b hb;refine⟨?_,(f b hb).2⟩;rw[zam (A9 (AD e))];exact (f b hb).1
  refine wpAny_newFunctionEnv (s:={ s with heap:=s.heap.push ob,toks:=tk }) B.nocell (by intro x hx;cases hx) (λh1 hns hsb=>?_) B.kind;have I2:=zlC (tk:=tk) B ho hN Cl I1 f1 (λb hb=>let ⟨o,e⟩:=bel b hb;⟨o,grow b o e⟩) hns hsb;have old:∀b o,s.heap.get? b=some o->h1.get? b=some o:=λb o e=>(hsb.2 b (A9 (AD (grow b o e)))).trans (Al _ (grow b o e))
  have st1:tn 0 h1:=T.keep _ _ _ st λb _ o e=>old b o e
  have f2:∀b∈fp,FpOk (blk X sc cl (s.heap.push ob).objs.size N' { s with heap:=s.heap.push ob,toks:=tk } (upd H s.heap.objs.size o0) fp) [] (upd H s.heap.objs.size o0) b:=λb hb=>by
    obtain⟨g0,g1,g2,g3,g4,g5⟩:=f1 b hb;obtain⟨o,e⟩:=bel b hb;refine⟨g0,A9 (AD (grow b o e)),λz=>?_,.inl hb,λx c e=>g4 x c (Cl.old x c e).1,λp hp=>absurd (show p∈([]:List (Addr×Obj)) from hp) (by simp)⟩;rcases Av.mp (I1.stkSub b z) with q |q
    . exact g1 q
    . exact g2 q
  have loop:=hloop cl _ _ _ _ s.heap.objs.size [] _ _ _ (D s.heap.objs.size) (compPost (AA X.prog X.w) X.A X.xe use Q (.ref s.heap.objs.size) (s.heap.push ob).objs.size) I2 st1 f2 h λfl s' ⟨σ',H',I',fr',q'⟩=>by
    have I3:=zlK I1 f1 I';have hC:FpOk X pins H' (s.heap.push ob).objs.size:=I1.fpOk (Ai _) I'.free;obtain⟨m,hn,_⟩:=I'.loc;have:=hend _ H' s' I3 hC ⟨m,hn⟩ ⟨σ',q'⟩
    cases use <;> exact this
  exact hstart _ _ _ _ loop (T.self _ 0 _ _ _ st1 loop)
end
section
variable {X:Cx}{osc:Scope}{N:List Str}{sc:Scope}{N':List Str}{sel:List (Option Nat)}{pos:Pos}{elt kx vx tg iter:Expr}{ifs:List Expr}{wi:TI}{g:TG}{tt:TT}{te tk tv:TE}
theorem zeY{it:Addr}{fp:List Addr}{tn:Nat -> Heap -> Prop}{J:It}(T:Turn X.prog X.w X.K tg J fp it tn)(hc:X.calm=true)(hg:InBlk X sc N' λY => PG Y tg g)(ht:InBlk X sc N' λY => PTs Y ifs tt)(he:InBlk X sc N' λY => PE Y elt te) :
  ∀cl C s0 H0 ex p pins s σ H Dn R,Inv (blk X sc cl C N' s0 H0 ex) pins σ H s->tn 0 s.heap->(∀b∈fp,FpOk (blk X sc cl C N' s0 H0 ex) pins H b)->zch J g (tIfs tt (zcf p te)) Dn σ H ->
   (∀fl s',(∃ σ' H',Inv (blk X sc cl C N' s0 H0 ex) pins σ' H' s'/\(∀b∈fp,H' b=none)/\Dn.nx σ' H')->R (.ok fl) s')->CF (AA X.prog X.w) X.A (.compLoop (.ListComp elt [⟨tg,iter,ifs,0⟩] sc pos) 0 (.ref it) (.ref p) (CP sc cl C X.env)) R s :=
 λcl C s0 H0 ex p pins s σ H Dn R I st f W hR =>
  zc5 (X:=blk X sc cl C N' s0 H0 ex) (p:=iter.pos) (inner:=do let _ <- call (.builtin "list.append") [.ref p,<- eval elt (CP sc cl C X.env)]) rfl rfl rfl (λB {α t Q E s} h w=>by subst h;exact w) hc rfl (hg _ _ _ _ _) (ht _ _ _ _ _) (zjc (he _ _ _ _ _)) I T st f W hR
noncomputable def zf2(wi:TI)(sel:List (Option Nat))(g:TG)(tt:TT)(te:TE):TE:=λσ H Q=>wi σ H λJ H1=>∀p,H1 p=none ->
 zch J g (tIfs tt (zcf p te)) { nx:=λ_ H'=>Q (.ref p) H',rt:=λ_ _=>False } (selSt sel σ) (upd H1 p (.lst []))
theorem Inv.let_go{pins:List (Addr×Obj)}{σ:St}{H:Hp}{s:Ab}{C:Addr}{h':Heap}(I:Inv X pins σ H s)(f:FpOk X pins H C)(hs:CU C s.heap h'):Inv X pins σ H { s with heap:=h' }:=by obtain⟨f0,f1,_,f3,f4,f5⟩:=f;exact I.turned (t':=s.toks) (λb o hb e=>(hs.2 b hb).trans e) f0 f1 f3 f4 f5
theorem zg9 {P:AF}{w:A4}{H:Hp}{h:Heap}:ObjOk P w (upd H h.objs.size (.lst [])) (h.push { cls:=.type "list",dict:=none,data:=.seq ([]:List Value).toArray }) h.objs.size (.lst []) :=
 ⟨Be _,[],_,.nil,AU _ rfl⟩
theorem za3(B:BlkOk osc N sc N' sel)(hi:PI X tg iter wi)(hg:InBlk X sc N' λY => PG Y tg g)(ht:InBlk X sc N' λY => PTs Y ifs tt)(he:InBlk X sc N' λY => PE Y elt te)
  (ho:X.env.scope=osc:=by rfl) (hN:X.N=N:=by rfl) (hc:X.calm=true:=by rfl) (hs:∀x,Bz iter X.env x=pure x:=by intro _;rfl) :
  PE X (.ListComp elt [⟨tg,iter,ifs,0⟩] sc pos) (zf2 wi sel g tt te):=by
 intro pins s σ H Q I h;obtain⟨cl,Cl⟩:=zhX I.ok B ho;rw[eval_ListComp];refine CN (use:=none) rfl hs Cl.run B.kind B.names (thn (hi pins s σ H _ I h) λv s1 h1=>thn h1 λitv s2 h2=>?_);obtain⟨it,fp,tn,J,H2,e,I2,T,st2,f2,h2⟩:=h2;subst e
 refine BM (zc6 (e:=.ListComp elt [⟨tg,iter,ifs,0⟩] sc pos) (inner:=λ_ _=>pure ()) (D:=λp=>{ nx:=λ_ H'=>Q (.ref p) H',rt:=λ_ _=>False }) (tb:=λp=>zcf p te) (use:=none) B ho hN hc (λacc env R s a b=>codeAny_compStart_list a b)
  (zeY (iter:=iter) (pos:=pos) T hc hg ht he) I2 T st2 f2 zg9 rfl (h2 _ (I2.hok.fresh (Ai _))) (λC H' s' I3 fC hn hq=>?_) s2.toks cl Cl X.xe)
 obtain⟨m,hn⟩:=hn;obtain⟨_,hq⟩:=hq;exact⟨m,hn,λh' hs'=>⟨.ref s2.heap.objs.size,H',I3.let_go fC hs',rfl,hq⟩⟩
noncomputable def zl4(wi:TI)(sel:List (Option Nat))(g:TG)(tt:TT)(te:TE)(i:Nat):TS:=λD σ H=>wi σ H λJ H1=>∀p,H1 p=none ->
 zch J g (tIfs tt (zcf p te)) { nx:=λ_ H'=>D.nx (σ.set i (some (.ref p))) H',rt:=λ_ _=>False } (selSt sel σ) (upd H1 p (.lst []))
theorem zhD{i:Nat}{x:Str}{px spos:Pos}(B:BlkOk osc N sc N' sel)(hnd:X.N.Nodup)(hi':X.N[i]? = some x)(hx:Loc X.env.scope x)(hi:PI X tg iter wi)(hg:InBlk X sc N' λY => PG Y tg g)(ht:InBlk X sc N' λY => PTs Y ifs tt)(he:InBlk X sc N' λY => PE Y elt te)
  (hsw:swapsWith (.ListComp elt [⟨tg,iter,ifs,0⟩] sc pos) (some (.Name x px)) spos.line X.env=pure true:=by rfl)
  (ho:X.env.scope=osc:=by rfl) (hN:X.N=N:=by rfl) (hc:X.calm=true:=by rfl) (hs:∀x,Bz iter X.env x=pure x:=by intro _;rfl)
  (hf:X.fn x=true∨X.env.scope.names.lookup x=some .local:=by first |exact .inl rfl |exact .inr rfl |assumption) :
  PS X (.Assign [.Name x px] (.ListComp elt [⟨tg,iter,ifs,0⟩] sc pos) spos) (zl4 wi sel g tt te i):=by
 intro pins s σ H D I h;obtain⟨cl,Cl⟩:=zhX I.ok B ho;rw[exec_Assign_Name_used _ _ _ _ hsw];refine Ad (CK (Ad ?_));show Au _ X.A (do let _ <- comprehension (.ListComp elt [⟨tg,iter,ifs,0⟩] sc pos) sc X.env _ (newList []) false (eval iter X.env) (some (assign (.Name x px) X.env))) _ _ s;refine Ad (thn (CN (use:=some (assign (.Name x px) X.env)) (Q:=λ_ s'=>SP X pins D .next s') rfl hs Cl.run B.kind B.names (thn (hi pins s σ H _ I h) λv s1 h1=>thn h1 λitv s2 h2=>?_)) λ_ s' hq=>An (An hq));obtain⟨it,fp,tn,J,H2,e,I2,T,st2,f2,h2⟩:=h2;subst e
 refine BM (zc6 (e:=.ListComp elt [⟨tg,iter,ifs,0⟩] sc pos) (inner:=λ_ _=>pure ()) (D:=λp=>{ nx:=λ_ H'=>D.nx (σ.set i (some (.ref p))) H',rt:=λ_ _=>False }) (tb:=λp=>zcf p te) (use:=some (assign (.Name x px) X.env)) B ho hN hc (λacc env R s a b=>codeAny_compStart_list a b)
  (zeY (iter:=iter) (pos:=pos) T hc hg ht he) I2 T st2 f2 zg9 rfl (h2 _ (I2.hok.fresh (Ai _))) (λC H' s' I3 fC hn hq=>?_) s2.toks cl Cl X.xe)
 obtain⟨m,hn⟩:=hn;obtain⟨_,hq⟩:=hq;show Au _ X.A (assign (.Name x px) X.env (.ref s2.heap.objs.size)) _ _ _;refine wpAny_assign_Name (zdI I3 hnd hi' hx (v:=.ref s2.heap.objs.size) rfl (λs4 I4 hch=>?_) hf);obtain⟨a,sb,ha⟩:=hch
 have nC:C≠a:=by
  rcases ha with z |z
  .rw[z];exact fC.2.1
  .exact λq=>fC.2.2.2.2.1 x a z q.symm
 refine⟨m,hn.sameBut sb nC,λh' hs'=>⟨_,H',I4.let_go fC hs',hq⟩⟩
theorem zio{it:Addr}{fp:List Addr}{tn:Nat -> Heap -> Prop}{J:It}(hu:X.A.units + 1 < cLine)(T:Turn X.prog X.w X.K tg J fp it tn)(hc:X.calm=true)(hg:InBlk X sc N' λY => PG Y tg g)(ht:InBlk X sc N' λY => PTs Y ifs tt)(hk:InBlk X sc N' λY => PE Y kx tk)(hv:InBlk X sc N' λY => PE Y vx tv) :
  ∀cl C s0 H0 ex p pins s σ H Dn R,Inv (blk X sc cl C N' s0 H0 ex) pins σ H s->tn 0 s.heap->(∀b∈fp,FpOk (blk X sc cl C N' s0 H0 ex) pins H b)->zch J g (tIfs tt (zhn p tk tv)) Dn σ H ->
   (∀fl s',(∃ σ' H',Inv (blk X sc cl C N' s0 H0 ex) pins σ' H' s'/\(∀b∈fp,H' b=none)/\Dn.nx σ' H')->R (.ok fl) s')->CF (AA X.prog X.w) X.A (.compLoop (.DictComp kx vx [⟨tg,iter,ifs,0⟩] sc pos) 0 (.ref it) (.ref p) (CP sc cl C X.env)) R s :=
 λcl C s0 H0 ex p pins s σ H Dn R I st f W hR =>
  zc5 (X:=blk X sc cl C N' s0 H0 ex) (p:=iter.pos) rfl rfl rfl (λB {α t Q E s} h w=>by subst h;exact w) hc rfl (hg _ _ _ _ _) (ht _ _ _ _ _) (zlr (X:=blk X sc cl C N' s0 H0 ex) hu (hk _ _ _ _ _) (hv _ _ _ _ _)) I T st f W hR
noncomputable def zlW(wi:TI)(sel:List (Option Nat))(g:TG)(tt:TT)(tk tv:TE):TE:=λσ H Q=>wi σ H λJ H1=>∀p,H1 p=none ->
 zch J g (tIfs tt (zhn p tk tv)) { nx:=λ_ H'=>Q (.ref p) H',rt:=λ_ _=>False } (selSt sel σ) (upd H1 p (.dT []))
theorem zka(hu:X.A.units + 1 < cLine)(B:BlkOk osc N sc N' sel)(hi:PI X tg iter wi)(hg:InBlk X sc N' λY => PG Y tg g)(ht:InBlk X sc N' λY => PTs Y ifs tt)(hk:InBlk X sc N' λY => PE Y kx tk)(hv:InBlk X sc N' λY => PE Y vx tv)
  (ho:X.env.scope=osc:=by rfl) (hN:X.N=N:=by rfl) (hc:X.calm=true:=by rfl) (hs:∀x,Bz iter X.env x=pure x:=by intro _;rfl) :
  PE X (.DictComp kx vx [⟨tg,iter,ifs,0⟩] sc pos) (zlW wi sel g tt tk tv):=by
 intro pins s σ H Q I h;obtain⟨cl,Cl⟩:=zhX I.ok B ho;show Au _ X.A (comprehension (.DictComp kx vx [⟨tg,iter,ifs,0⟩] sc pos) sc X.env _ newDict false (eval iter X.env)) _ _ s;refine CN (use:=none) rfl hs Cl.run B.kind B.names (thn (hi pins s σ H _ I h) λv s1 h1=>thn h1 λitv s2 h2=>?_);obtain⟨it,fp,tn,J,H2,e,I2,T,st2,f2,h2⟩:=h2;subst e
 refine BM (zc6 (e:=.DictComp kx vx [⟨tg,iter,ifs,0⟩] sc pos) (inner:=λ_ _=>pure ()) (D:=λp=>{ nx:=λ_ H'=>Q (.ref p) H',rt:=λ_ _=>False }) (tb:=λp=>zhn p tk tv) (use:=none) B ho hN hc (λacc env R s a b=>codeAny_compStart_dict a b)
  (zio (iter:=iter) (pos:=pos) hu T hc hg ht hk hv) I2 T st2 f2 (zhU s2.heap I2.big) rfl (h2 _ (I2.hok.fresh (Ai _))) (λC H' s' I3 fC hn hq=>?_) s2.toks cl Cl X.xe)
 obtain⟨m,hn⟩:=hn;obtain⟨_,hq⟩:=hq;exact⟨m,hn,λh' hs'=>⟨.ref s2.heap.objs.size,H',I3.let_go fC hs',rfl,hq⟩⟩
end
mutual
inductive RD (K:W.Frag) (H:Hp):V->PyData->Prop where
 |non:RD K H .non .none
 |bl (b:Bool):RD K H (.bl b) (.bool b)
 |int (i:Int):RD K H (.int i) (.int i)
 |str (x:Str):RD K H (.str x) (.str x)
 |lst {a:Addr} {xs:List V} {ds:List PyData}:SqL K H a xs->RDs K H xs ds->RD K H (.ref a) (.list ds)
 |tup {a:Addr} {xs:List V} {ds:List PyData}:SqT K H a xs->RDs K H xs ds->RD K H (.ref a) (.tuple ds)
inductive RDs (K:W.Frag) (H:Hp):List V->List PyData->Prop where
 |nil:RDs K H [] []
 |cons {x:V} {xs:List V} {d:PyData} {ds:List PyData}:RD K H x d->RDs K H xs ds->RDs K H (x::xs) (d::ds)
end
section
variable {X:Cx}{pins:List (Addr×Obj)}{σ:St}{H:Hp}{s:Ab}
mutual
theorem Inv.reads(I:Inv X pins σ H s):∀{v:V}{d:PyData}{u:Value},RD X.K H v d->RelV v u->∃as,Reads s.heap u d as
 |_,_,_,.non,r=>by cases (show _=Dx from r);exact⟨_,.none⟩
 |_,_,_,.bl b,r=>by cases (show _=Dy b from r);exact⟨_,.bool b⟩
 |_,_,_,.int i,r=>by obtain⟨t,rfl⟩:=r;exact⟨_,.int i t⟩
 |_,_,_,.str x,r=>by obtain⟨t,rfl⟩:=r;exact⟨_,.str x t⟩
 |_,_,_,.lst (a:=a) hq hs,r=>by
  cases (show _=At a from r)
  obtain⟨its,rv,p,hz⟩:=I.list hq;obtain⟨as,ra⟩:=I.readsAll hs rv;obtain⟨o,ho,hc,n,hd⟩:=p.isList;exact⟨_,.list ho hc hd (by simpa using ra)⟩
 |_,_,_,.tup (a:=a) hq hs,r=>by
  cases (show _=At a from r)
  obtain⟨its,rv,p,hz⟩:=I.tuple hq;obtain⟨as,ra⟩:=I.readsAll hs rv;obtain⟨o,ho,hc,n,hd⟩:=p;exact⟨_,.tuple ho hc hd (by simpa using ra)⟩
theorem Inv.readsAll(I:Inv X pins σ H s):∀{vs:List V}{ds:List PyData}{us:List Value},RDs X.K H vs ds->Vals vs us->∃as,ReadsAll s.heap us ds as
 |_,_,_,.nil,r=>by cases r;exact⟨_,.nil⟩
 |_,_,_,.cons h t,.cons r rr=>by
  obtain⟨as,h1⟩:=I.reads h r;obtain⟨bs,h2⟩:=I.readsAll t rr;exact⟨_,.cons h1 h2⟩
end
end
theorem RDs.ints{K:W.Frag}{H:Hp}:∀(ns:List Int),RDs K H (ns.map V.int) (ns.map Dg)
 |[]=>.nil
 |n::r=>.cons (.int n) (RDs.ints r)
mutual
theorem RD.mono{K:W.Frag}{H H':Hp}(hl:∀a xs,SqL K H a xs->SqL K H' a xs)(ht:∀a xs,SqT K H a xs->SqT K H' a xs):∀{v:V}{d:PyData},RD K H v d->RD K H' v d
 |_,_,.non=>.non
 |_,_,.bl b=>.bl b
 |_,_,.int i=>.int i
 |_,_,.str x=>.str x
 |_,_,.lst h t=>.lst (hl _ _ h) (RDs.mono hl ht t)
 |_,_,.tup h t=>.tup (ht _ _ h) (RDs.mono hl ht t)
theorem RDs.mono{K:W.Frag}{H H':Hp}(hl:∀a xs,SqL K H a xs->SqL K H' a xs)(ht:∀a xs,SqT K H a xs->SqT K H' a xs):∀{v:List V}{d:List PyData},RDs K H v d->RDs K H' v d
 |_,_,.nil=>.nil
 |_,_,.cons h t=>.cons (RD.mono hl ht h) (RDs.mono hl ht t)
end
noncomputable def rEqD(K:W.Frag):R2:=λx y H Q=>∃d e,RD K H x d/\RD K H y e/\CG d=true/\CG e=true/\Q (.bl (PyData.eqv d e)) H
noncomputable def rNeD(K:W.Frag):R2:=λx y H Q=>∃d e,RD K H x d/\RD K H y e/\CG d=true/\CG e=true/\Q (.bl (!PyData.eqv d e)) H
section
variable {X:Cx}
theorem zgf(hu:X.A.units+64<cLine):OpR X (Bu .Eq) (rEqD X.K):=by intro pins s σ H x y v u Q I rx ry h;obtain⟨d,e,hd,he,sd,se,q⟩:=h;obtain⟨as,ra⟩:=I.reads hd rx;obtain⟨bs,rb⟩:=I.reads he ry;exact SeqAt.compareEq_shaped ra rb sd se hu ⟨.bl _,H,I,rfl,q⟩
theorem zkO(hu:X.A.units+64<cLine):OpR X (Bu .NotEq) (rNeD X.K):=by intro pins s σ H x y v u Q I rx ry h;obtain⟨d,e,hd,he,sd,se,q⟩:=h;obtain⟨as,ra⟩:=I.reads hd rx;obtain⟨bs,rb⟩:=I.reads he ry;exact SeqAt.compareNe_shaped ra rb sd se hu ⟨.bl _,H,I,rfl,q⟩
theorem zgD{ds:List PyData}(h:∀e∈ds,CG e=true):Db ds=true:=by
 induction ds with
 |nil=>rfl
 |cons d r ih=>rw[Db,SeqAt.canLay_of_shaped (h d AE),ih λe he=>h e (Az _ he)];rfl
theorem zea:∀ns ms:List Int,PyData.eqvAll (ns.map Dg) (ms.map Dg)=decide (ns=ms)
 |[],[]=>rfl
 |[],_::_=>rfl
 |_::_,[]=>rfl
 |n::r,m::t=>by
  show (n == m && PyData.eqvAll (r.map Dg) (t.map Dg))=_;rw[zea r t]
  by_cases e:n=m
  .subst e;by_cases e2:r=t <;> simp[e2]
  .simp[e]
theorem zc3:∀ns:List Int,PyData.depthAll (ns.map Dg)=0
 |[]=>rfl
 |n::r=>by show max 0 (PyData.depthAll (r.map Dg))=0;rw[zc3 r];rfl
theorem zcD:∀ns:List Int,Db (ns.map Dg)=true
 |[]=>rfl
 |n::r=>by show (true && Db (r.map Dg))=true;rw[zcD r];rfl
noncomputable def tI(ns:List Int):PyData:=.tuple (ns.map .int)
theorem zcC(ns ms:List Int):PyData.eqv (tI ns) (tI ms)=decide (ns=ms):=zea ns ms
theorem zaD(ns:List Int):CG (tI ns)=true:=by unfold CG tI;rw[PyData.canLay0,zcD,PyData.depth,zc3];rfl
end
section
variable {prog:AF}{w:A4}{A:AQ}{E:Value->Ab->Prop}{s:Ab}
end
section
variable {X:Cx}{pos:Pos}
noncomputable def CDivB(i j:Int):Prop:=0<j/\j.natAbs.log2<9000
theorem zhF:OpR X (CD .FloorDiv) (rI CDivB λi j=>.int (i / j)):=opI λi j _ _ _ _ _ hc q=>by have e:i.fdiv j=i / j:=Int.fdiv_eq_ediv_of_nonneg i (Int.le_of_lt hc.1);rw[<- e]at q;exact floordiv_int (by have:=hc.1;lia) q (.inl (PyProof.noPylong_of_log2 hc.2))
theorem zei (hh:X.calm=true):CallR X (.builtin "all") (λxs H Q=>∃(p:Addr) (bs:List Bool),xs=[.ref p]/\SqL X.K H p (bs.map V.bl)/\Q (.bl (bs.all id)) H):=by
 intro pins s σ H xs us Q I r h;obtain⟨p,bs,rfl,hq,q⟩:=h;obtain⟨u,rfl,ru⟩:=vals1 r
 cases (show u=At p from ru)
 obtain⟨its,rv,pl,hz⟩:=I.list hq;have hlp:p<s.heap.objs.size:=by obtain⟨o,ho,_⟩:=pl.isList;exact AD ho
 have hlen:its.length=bs.length:=by have:=rv.length;simpa using this.symm
 refine call_all_walk (wpAny_pyIter_list pl.isList ?_);refine⟨_,_,_,_,_,_,λi=>bs.getD i true,rfl,Walks.list (A:=X.A.in1) (I.ok.hd hh) s.heap.objs.size p (A9 hlp) its.toArray,⟨⟨_,AU _ rfl,rfl,rfl⟩,pl.isList.push _⟩,?_,λh' tk hk=>?_⟩
 .intro i v s1 Q1 E1 hv hQ;have hv':its[i]?=some v:=by simpa using hv
  have hi:i<its.length:=(Ac.mp hv').1;obtain⟨w',hw,rw'⟩:=rv.get (i:=i) (x:=V.bl (bs[i]'(by lia))) (by simp[Aa,show i<bs.length by lia]);rw[hv']at hw
  cases hw
  cases (show v=Dy _ from rw')
  refine BL ?_
  have e:bs.getD i true=bs[i]'(by lia):=by simp[AB,show i<bs.length by lia]
  rw[<- e];exact hQ
 .have I1:Inv X pins σ H { s with heap:=h',toks:=tk }:=I.kept λb o e=>hk b o (by simp;exact A9 (AD e)) (Al _ e)
  refine⟨.bl _,H,I1,rfl,?_⟩
  have e:(BD its.toArray.size).all (λi=>bs.getD i true)=bs.all id:=by
   rw[show its.toArray.size=bs.length by simpa using hlen];rw[C3];simp only[List.all_eq_true,List.mem_range,id];constructor
   .intro h b hb;obtain⟨i,hi,e⟩:=AR hb;have:=h i hi;simpa[AB,hi,e]using this
   .intro h i hi;have:=h bs[i] (A3 hi);simpa[AB,hi]using this
  rw[e];exact q
end
section
variable {X:Cx}
theorem zfN:CallR X (.builtin "isinstance") (λxs H Q=>∃x T t b,xs=[x,.ty T]/\TyOf X.K H x t/\W.kitOne X.K t (.type T)=some b/\Q (.bl b) H):=by
 intro pins s σ H xs us Q I r h;obtain⟨x,T,t,b,rfl,ty,e,q⟩:=h;obtain⟨u,w',rfl,ru,rw'⟩:=vals2 r
 cases (show w'=Value.type T from rw')
 exact zjB I ru ty e λtk=>⟨.bl b,H,I.tok tk,rfl,q⟩
theorem zgw (K:W.Frag):W.kitOne K (.type "int") (.type "bool")=some false:=by rfl
theorem zfF(K:W.Frag)(T:String):W.kitOne K (.type T) (.type T)=some true:=by unfold W.kitOne;rw[if_pos (by simp)]
end
end L2
namespace HT
open PySem PyProof.Rows
noncomputable def lexLe:List Int->List Int->Bool
 |[],[]=>true
 |[],_::_=>true
 |_::_,[]=>false
 |x::xs,y::ys=>if x=y then lexLe xs ys else decide (x<=y)
theorem zeV(x y:Int)(xs ys:List Int):lexLe (x::xs) (y::ys)=if x=y then lexLe xs ys else decide (x<=y):=rfl
theorem zfA:lexLe [] []=true:=rfl
theorem zeD(y:Int)(ys:List Int):lexLe [] (y::ys)=true:=rfl
theorem zeE(x:Int)(xs:List Int):lexLe (x::xs) []=false:=rfl
theorem zj5(A:AQ)(s:Ab)(a:Int)(t:Tok)(c:Int)(u:Tok)(prog:AF)(w:A4)(E:Value -> Ab -> Prop)(Q:Value -> Ab -> Prop)(h:Q (.bool (decide (a <= c))) s) :
  Au (AA prog w) A (richCompare .LtE (.int a t) (.int c u)) Q E s :=
 (PyProof.Rows.le_int h:Au (AA prog w) A (Bu .LtE (.int a t) (.int c u)) Q E s)
section
open PySem.SeqAt
open PySem.AutoSeq1 (wpAny_loadPart')
open PySem.MeetsSeq PySem.MeetsSeq2 PySem.MeetsSeq3
theorem ze2(l b:Addr)(items items2:Array Value)(n n2:Nat)(dd dd2:Option Addr)(sl sl2:Array (Option Value))(ns ms:List Int)(hi:Cd items.toList ns)(hj:Cd items2.toList ms) :
  Meets (Builtin.«tuple.__le__» ⟨[.ref l,.ref b],[]⟩)
   (λ_ R s=>s.heap.get? l=some { cls:=.type "tuple",dict:=dd,data:=.seq items n,slots:=sl }/\s.heap.get? b=some { cls:=.type "tuple",dict:=dd2,data:=.seq items2 n2,slots:=sl2 } /\
    R (.ok (.ret (.bool (lexLe ns ms)))) s) :=
 .of_wp λprog w A R s h=>by
  obtain⟨hp,g,d,tk,os⟩:=s;obtain⟨hl,hb,h⟩:=h;have f2:=AutoSeq1.sub_tuple_tuple;have z1:items.size=ns.length:=by rw[<- hi.length];simp
  have z2:items2.size=ms.length:=by rw[<- hj.length];simp
  wp_walk using Cj hl,Cj hb,wpAny_forIn_list _ (λrest b s'=>b.1=none/\s'=⟨hp,g,d,tk,os⟩/\∃(vs ws:List Value) (ns' ms':List Int),rest=vs.zip ws /\
   Cd vs ns'/\Cd ws ms'/\ns'.length+items2.size=ms'.length+items.size/\R (.ok (.ret (.bool (lexLe ns' ms')))) ⟨hp,g,d,tk,os⟩) _
  case turn =>
   rintro⟨y,x⟩ rest b s' ⟨hb',rfl,vs,ws,ns',ms',hz,hvi,hwi,hlen,hR⟩
   cases hvi with
   |nil=>rw[List.zip_nil_left]at hz;cases hz
   |cons a t hvi' =>
    cases hwi with
    |nil=>rw[List.zip_nil_right]at hz;cases hz
    |cons c u hwi' =>
     rw[DC]at hz;injection hz with hyx hrest;injection hyx with hy hx;subst hy hx;rw[zeV]at hR;simp only[AS]at hlen;obtain⟨e,he,hiff⟩:=zhS A.in1 ⟨hp,g,d,tk,os⟩ a t c u;refine Ad (he prog w _ _ ?_)
     cases e with
     |true =>
      rw[if_pos (hiff.mp rfl)]at hR
      wp_walk
      exact⟨rfl,rfl,_,_,_,_,hrest,hvi',hwi',by lia,hR⟩
     |false =>
      rw[if_neg (λq=>absurd (hiff.mpr q) Aw)]at hR;have hri:=zj5 A.in1 ⟨hp,g,d,tk,os⟩ a t c u prog w
      wp_walk using hri
      exact⟨_,rfl,by simpa using hR⟩
  case fin =>
   rintro⟨b1,b2⟩ s' ⟨hb',rfl,vs,ws,ns',ms',hz,hvi,hwi,hlen,hR⟩;simp only at hb';subst hb'
   have hv:lexLe ns' ms'=decide (items.size<=items2.size):=by
    cases hvi with
    |nil =>
     cases hwi with
     |nil =>
      simp only[B6]at hlen;rw[zfA];exact (decide_eq_true (by lia)).symm
     |cons c u hw =>
      simp only[B6,AS]at hlen;rw[zeD];exact (decide_eq_true (by lia)).symm
    |cons a t hv =>
     cases hwi with
     |nil =>
      simp only[B6,AS]at hlen;rw[zeE];exact (decide_eq_false (by lia)).symm
     |cons c u hw =>
      rw[DC]at hz
      cases hz
   rw[hv]at hR
   wp_walk
   exact⟨_,rfl,by simpa[Builtin.Tuple.tupleCompareSizes]using hR⟩
  case h =>
   exact⟨rfl,rfl,items.toList,items2.toList,ns,ms,rfl,hi,hj,by lia,h⟩
end
section
variable {prog:AF}{w:A4}{A:AQ}{E:Value->Ab->Prop}{s:Ab}
theorem le_tupInts{l b:Addr}{items items2:Array Value}{ns ms:List Int}{Q:Value -> Ab -> Prop}(hl:IsTup s.heap l items)(hb:IsTup s.heap b items2)(hi:Cd items.toList ns)(hj:Cd items2.toList ms)
  (hu:A.units<cLine) (h:Q (.bool (lexLe ns ms)) s):Au (AA prog w) A (Bu .LtE (.ref l) (.ref b)) Q E s:=by
 obtain⟨⟨cls,dd,data,sl⟩,ho,hc,n,hd⟩:=id hl;obtain⟨⟨cls2,dd2,data2,sl2⟩,ho2,hc2,n2,hd2⟩:=id hb;simp only at hc hd hc2 hd2;subst hc hd hc2 hd2
 exact richCompare_meets_room (op:=.LtE) ⟨_,ho,rfl⟩ ⟨_,ho2,rfl⟩ PySem.F.slot_tuple_le PySem.F.entry_tuple_le (PySem.F.args_tuple_le_2 _ _) (ze2 l b items items2 n n2 dd dd2 sl sl2 ns ms hi hj)
  ⟨ho,ho2,show Dy (lexLe ns ms)≠Value.notImplemented/\Q (.bool (lexLe ns ms)) s from ⟨(λx=>nomatch x),h⟩⟩ hu
end
end HT
namespace L2
open PySem PySem.Spec PyProof.Rows
section
variable {X:Cx}
noncomputable def rLeT(K:W.Frag):R2:=λx y H Q=>∃a b ns ms,x=.ref a/\y=.ref b/\SqT K H a (ns.map V.int)/\SqT K H b (ms.map V.int)/\Q (.bl (HT.lexLe ns ms)) H
theorem zmc(hu:X.A.units<cLine):OpR X (Bu .LtE) (rLeT X.K):=by
 intro pins s σ H x y v u Q I rx ry h;obtain⟨a,b,ns,ms,rfl,rfl,ha,hb,q⟩:=h
 cases rx
 cases ry
 obtain⟨its,r1,p1,_⟩:=I.tuple ha;obtain⟨its2,r2,p2,_⟩:=I.tuple hb;have i1:Cd its.toArray.toList ns:=zbC r1;have i2:Cd its2.toArray.toList ms:=zbC r2;exact HT.le_tupInts p1 p2 i1 i2 hu ⟨.bl (HT.lexLe ns ms),H,I,rfl,q⟩
end
section
variable {X:Cx}
noncomputable def zli(K:W.Frag):V->List V->Hp->VK->Prop:=λx vs H Q=>∃p xs y d ds j e,x=.ref p/\vs=[y]/\SqL K H p xs/\RD K H y d/\RDs K H xs ds/\CG d=true/\(∀e∈ds,CG e=true) /\
 ds[j]?=some e/\PyData.eqv e d=true/\(∀m e',m<j->ds[m]?=some e'->PyData.eqv e' d=false)/\Q (.int (j:Nat)) H
theorem zjr (hu:X.A.units+65<cLine):MtR X "list.index" (zli X.K):=by
 intro pins s σ H x vs v us Q I rx rv h;obtain⟨p,xs,y,d,ds,j,e,rfl,rfl,hq,hd,hds,sd,sds,hj,he,hno,q⟩:=h
 cases rx
 obtain⟨u,rfl,ru⟩:=rv.one;obtain⟨its,r,pl,hz⟩:=I.list hq;obtain⟨as,ra⟩:=I.reads hd ru;obtain⟨bs,rb⟩:=I.readsAll hds r;have hlay:=zgD sds;have hmap:=SeqAt.readsAll_map ds _ _ hlay rb;have hlen:its.length=ds.length:=by rw[<- hmap,Am]
 have hj':j<ds.length:=(Ac.mp hj).1
 have rd:∀m (hm:m<its.length),ds[m]?=some (SeqAt.readOf s.heap its[m]):=λm hm=>by rw[<- hmap,AI,Aa hm];rfl
 obtain⟨⟨cls,dd,data,sl⟩,ho,hc,n,hdat⟩:=pl.isList;simp only at hc hdat
 subst hc hdat
 have hsz:xs.length<=sizeLine:=hz;have hl2:its.length=xs.length:=r.length.symm
 refine call_meets PySem.F.slot_list_index ⟨_,ho,rfl⟩ PySem.F.entry_list_index (PySem.F.args_list_index_2 _ _)
  (SeqAt.list_indexAt p its.toArray n dd sl u (λz=>PyData.eqv (SeqAt.readOf s.heap z) d) j (by simpa[hlen]using hj') (by have:=sizeLine_eq;lia) ?_ ?_)
  ⟨ho,SeqAt.items_eqAt (vs:=its.toArray) rb ra hlay (SeqAt.canLay_of_shaped sd) (PyProof.Rows.room_in_shaped sd hu),?_⟩
 .have:=rd j (by lia);rw[hj]at this;have e1:=AW this;show PyData.eqv (SeqAt.readOf s.heap its[j]) d=true;rw[<- e1];exact he
 .intro m hm hlt;have hm':m<its.length:=by simpa using hm
  exact hno m _ hlt (rd m hm')
 .exact⟨.int (j:Nat),H,I.tok _,⟨_,rfl⟩,q⟩
end
section
variable {X:Cx}{k:Nat}{f:Addr}{fd:Bv}{ps:List Str}{sp:Sp}{pins:List (Addr×Obj)}{σ:St}
theorem ziV{H:Hp}{s:Ab}{Q:VK}{us:List Value}{vs:List V}{E:Value -> Ab -> Prop}(F:FnOk X.prog X.w X.K X.mg X.base CX0 k f fd ps sp)(hr:Room (k + 1) X.A)(hb:Binds X.K fd ps [])
  (I:Inv X pins σ H s) (r:Vals vs us) (h:sp vs H Q E0):Au (AA X.prog X.w) X.A.in1 (call (.ref f) us) (EP X pins σ Q) E s:=by
 have hl:(us++[]).length=ps.length:=by rw[AH,<- r.length];exact F.len _ _ _ _ h
 have hb':=hb s us I.kIn hl;rw[AH]at hb';refine wpAny_call (codeAny_mono (F.run X.A.in1 X.stack s H ⟨us,[]⟩ us vs Q E0 hr.in1 I.env0.in1 hb' r h) λr s' hq=>?_)
 cases r with
 |error e=>exact BI hq
 |ok fl =>
  cases fl with
  |ret u=>exact I.after hq
  |next=>exact BI hq
  |brk=>exact BI hq
  |cont=>exact BI hq
theorem Inv.moved{H:Hp}{s:Ab}{b:Addr}{h':Heap}{t':Nat}(I:Inv X pins σ H s)(fb:FpOk X pins H b)(hk:∀c o,c ∉ [b]->s.heap.get? c=some o->h'.get? c=some o):Inv X pins σ H { s with heap:=h',toks:=t' } :=
 I.turned (λc o hc e=>hk c o (λz=>hc (Ah.mp z)) e) fb.1 fb.2.1 fb.2.2.2.1 fb.2.2.2.2.1 fb.2.2.2.2.2
theorem FpOk.again{H H':Hp}{b:Addr}(fb:FpOk X pins H b)(hn:H' b=none):FpOk X pins H' b:=⟨hn,fb.2⟩
structure MK (X:Cx) (pins:List (Addr×Obj)) (σ:St) (H:Hp) (s:Ab) (it st l:Addr) (j:Nat) (vb kb:Value):Prop where
 inv:Inv X pins σ H s
 fi:FpOk X pins H it
 fs:FpOk X pins H st
 ne:st≠it
 iter:s.heap.IsListIter it l j
 hold:∃c,s.heap.get? st=some (BE "list" #[vb,kb] c)
noncomputable def Least(κ:Nat->List Int)(n i:Nat):Prop:=∀j,j<n->HT.lexLt (κ j) (κ i)=false/\(j<i->HT.lexLt (κ i) (κ j)=true)
end
end L2
namespace HT
theorem lexLt_irrefl:∀a:List Int,lexLt a a=false
 |[]=>rfl
 |x::r=>by rw[lexLt_cons,if_pos rfl];exact lexLt_irrefl r
theorem lexLt_trans:∀{a b c:List Int},lexLt a b=true->lexLt b c=true->lexLt a c=true
 |[],[],_,h,_=>by cases h
 |[],_::_,[],_,h=>by cases h
 |[],_::_,_::_,_,_=>rfl
 |_::_,[],_,h,_=>by cases h
 |_::_,_::_,[],_,h=>by cases h
 |x::a,y::b,z::c,h,g=>by
  rw[lexLt_cons]at h g ⊢
  by_cases e1:x=y
  .subst e1;rw[if_pos rfl]at h
   by_cases e2:x=z
   .subst e2;rw[if_pos rfl]at g ⊢;exact lexLt_trans h g
   .rw[if_neg e2]at g ⊢;exact g
  .rw[if_neg e1]at h;have h':x<y:=by simpa using h
   by_cases e2:y=z
   .subst e2;rw[if_neg e1];exact h
   .rw[if_neg e2]at g;have g':y<z:=by simpa using g
    rw[if_neg (by lia)];exact decide_eq_true (by lia)
theorem lexLt_total:∀{a b:List Int},lexLt a b=false->lexLt b a=false->a=b
 |[],[],_,_=>rfl
 |[],_::_,h,_=>by cases h
 |_::_,[],_,h=>by cases h
 |x::a,y::b,h,g=>by
  rw[lexLt_cons]at h g
  by_cases e:x=y
  .subst e;rw[if_pos rfl]at h g;rw[lexLt_total h g]
  .rw[if_neg e]at h;rw[if_neg (B8 e)]at g;have h':¬ x<y:=by simpa using h
   have g':¬ y<x:=by simpa using g
   lia
theorem lexLe_eq:∀a b:List Int,lexLe a b=!lexLt b a
 |[],[]=>rfl
 |[],_::_=>rfl
 |_::_,[]=>rfl
 |x::a,y::b=>by
  rw[zeV,lexLt_cons]
  by_cases e:x=y
  .subst e;rw[if_pos rfl,if_pos rfl];exact lexLe_eq a b
  .rw[if_neg e,if_neg (B8 e)]
   by_cases g:x<=y
   .rw[decide_eq_true g,decide_eq_false (by lia)];rfl
   .rw[decide_eq_false g,decide_eq_true (by lia)];rfl
theorem lexLt_of_not_lt_lt{a b c:List Int}(h:lexLt b a=false)(g:lexLt b c=true):lexLt a c=true:=by
 cases e:lexLt a b with
 |true=>exact lexLt_trans e g
 |false=>rw[lexLt_total e h];exact g
theorem lexLt_asym{a b:List Int}(h:lexLt a b=true):lexLt b a=false:=by
 cases e:lexLt b a with
 |false=>rfl
 |true=>have:=lexLt_trans h e;rw[lexLt_irrefl]at this;cases this
end HT
namespace L2
open PySem PySem.Spec PyProof.Rows
section
variable {X:Cx}{k:Nat}{f:Addr}{fd:Bv}{ps:List Str}{sp:Sp}{pins:List (Addr×Obj)}{σ:St}{H0:Hp}{Q:VK}{l it st:Addr}{xs:List V}{κ:Nat->List Int}
noncomputable def MKR(X:Cx)(pins:List (Addr×Obj))(σ:St)(Q:VK):Result->Ab->Prop:=λr s'=>match r with
 |.ok (.ret v)=>EP X pins σ Q v s'
 |.ok _=>False
 |.error e=>X.xe e s'
theorem zcw {xs:Array Value}{c:Nat}:∀v,(BE "list" xs c).data≠.cell v:=λv h=>by cases h
theorem zd6{h:Heap}{it l:Addr}{j:Nat}(hi:h.IsListIter it l j):∃o,h.get? it=some o/\∀v,o.data≠.cell v:=by obtain⟨o,ho,_,hd⟩:=hi;exact⟨o,ho,λv z=>by rw[hd]at z;cases z⟩
theorem zj2{H:Hp}{s:Ab}{Q1:VK}{u:Value}{x:V}{E:Value -> Ab -> Prop}{j:Nat}{vb kb:Value}(F:FnOk X.prog X.w X.K X.mg X.base CX0 k f fd ps sp)(hr:Room (k + 1) X.A)(hb:Binds X.K fd ps [])
    (M:MK X pins σ H s it st l j vb kb) (r:RelV x u) (h:sp [x] H Q1 E0):Au (AA X.prog X.w) X.A.in1 (call (.ref f) [u]) (λv s'=>∃y H',RelV y v/\Q1 y H'/\MK X pins σ H' s' it st l j vb kb) E s:=by
  obtain⟨c,hc⟩:=M.hold;obtain⟨oi,hoi,ci,di⟩:=id M.iter
  have I1:Inv X (pins ++ zdn [it, st] s.heap) σ H s := M.inv.pinned (λb hb => by
      rcases Av.mp hb with rfl |hb
      . exact M.fi
      . rw[Ah.mp hb];exact M.fs) (λb hb=>by
      rcases Av.mp hb with rfl |hb
      . exact zd6 M.iter
      . rw[Ah.mp hb];exact⟨_,hc,zcw⟩)
  refine BQ (ziV F hr hb I1 (.cons r .nil) h) (λv s' hv=>?_) λ_ _ e=>e
  obtain⟨y,H',I2,ry,q⟩:=hv;have p1:=I2.pin (it,oi) (Ak _ (Ak _ (za1 (by simp) hoi)));have p2:=I2.pin (st,BE "list" #[vb,kb] c) (Ak _ (Ak _ (za1 (by simp) hc)));exact⟨y,H',ry,q,I2.unpinned,M.fi.again p1.2.1,M.fs.again p2.2.1,M.ne,⟨oi,p1.1,ci,di⟩,c,p2.1⟩
theorem zly{H:Hp}{s:Ab}{a b:Addr}{ns ms:List Int}{E:Value -> Ab -> Prop}{Q1:Value -> Ab -> Prop}(hu:X.A.units + 1 < cLine)(I:Inv X pins σ H s)(ha:SqT X.K H a (ns.map V.int))(hb:SqT X.K H b (ms.map V.int))(q:Q1 (.bool (HT.lexLt ns ms)) s) :
  Au (AA X.prog X.w) X.A.in1 (richCompare .Lt (.ref a) (.ref b)) Q1 E s:=by
 obtain⟨its,r1,p1,_⟩:=I.tuple ha;obtain⟨its2,r2,p2,_⟩:=I.tuple hb;exact (HT.lt_tupInts p1 p2 (zbC r1) (zbC r2) hu q:Au (AA X.prog X.w) X.A.in1 (Bu .Lt (.ref a) (.ref b)) Q1 E s)
theorem MK.set{H:Hp}{s:Ab}{j:Nat}{vb kb v kv:Value}(M:MK X pins σ H s it st l j vb kb):MK X pins σ H { s with heap:=s.heap.update st (A0 λ_=>#[v,kv]) } it st l j v kv:=by obtain⟨c,hc⟩:=M.hold;have sb:=BZ s.heap st (A0 λ_=>#[v,kv]);obtain⟨oi,hoi,ci,di⟩:=id M.iter;exact⟨M.inv.moved (t':=s.toks) M.fs (λb o hb e=>(sb.2 b λz=>hb (by simp[z])).trans e),M.fi,M.fs,M.ne,⟨oi,(sb.2 it M.ne.symm).trans hoi,ci,di⟩,_,Dv hc λ_=>#[v,kv]⟩
theorem Least.next{n i:Nat}(h:Least κ n i)(e:HT.lexLt (κ n) (κ i)=false)(hi:i<n):Least κ (n+1) i:=λj hj=>by
 by_cases z:j=n
 .subst z;exact⟨e,λq=>absurd q (by lia)⟩
 .exact h j (by lia)
theorem Least.take{n i:Nat}(h:Least κ n i)(e:HT.lexLt (κ n) (κ i)=true)(hi:i<n):Least κ (n+1) n:=λj hj=>by
 by_cases z:j=n
 .subst z;exact⟨HT.lexLt_irrefl _,λq=>absurd q (by lia)⟩
 .have g:=(h j (by lia)).1
  have t:HT.lexLt (κ n) (κ j)=true:=by
   cases q:HT.lexLt (κ i) (κ j) with
   |true=>exact HT.lexLt_trans e q
   |false=>rw[<- HT.lexLt_total q g];exact e
  exact⟨HT.lexLt_asym t,λ_=>t⟩
theorem Room.un1{n:Nat}{A:AQ}(r:Room n A):A.units+1<cLine:=by have:=r.units;lia
theorem Same.seqT{K:W.Frag}{H H':Hp}{a:Addr}{xs:List V}(e:Same H H')(h:SqT K H a xs):SqT K H' a xs:=by
 rcases h with (h |⟨o,h⟩) |h
 .exact .inl (.inl (e _ _ h))
 .exact .inl (.inr ⟨o,e _ _ h⟩)
 .exact .inr h
theorem zjs(hh:X.A.handled=none)(F:FnOk X.prog X.w X.K X.mg X.base CX0 k f fd ps sp)(hr:Room (k + 1) X.A)(hb:Binds X.K fd ps [])
  (turn:∀i x H,xs[i]?=some x->Same H0 H->sp [x] H (λv H'=>Same H H'/\∃a,v=.ref a/\SqT X.K H' a ((κ i).map V.int)) E0)
  (hl:SqL X.K H0 l xs) (hli:l≠it) (hQ:∀i x H',xs[i]?=some x->Least κ xs.length i->Same H0 H'->Q x H') :
  ∀(r j i:Nat) (H:Hp) (s:Ab) (vb:Value) (xb:V) (b:Addr),xs.length-(j+1)=r->j+1<=xs.length->Same H0 H->MK X pins σ H s it st l (j+1) vb (.ref b)->xs[i]?=some xb->RelV xb vb->SqT X.K H b ((κ i).map V.int)->i<=j->Least κ (j+1) i ->
   CF (AA X.prog X.w) X.A (.builtin "min.loop" ⟨[.ref it,.ref f,.ref st],[]⟩) (MKR X pins σ Q) s:=by
 have nm:(toString "min" ++ toString ".loop" : String) = "min.loop":=by decide
 intro r
 induction r with
 |zero =>
  intro j i H s vb xb b hr0 hj hS M hxb rb kb' hij best;have hend:j+1=xs.length:=by lia
  obtain⟨its,rv,pl,hz⟩:=M.inv.list (hS.seq hl);have hlen:its.length=xs.length:=rv.length.symm;have W:=Walks.list (prog:=X.prog) (w:=X.w) (A:=X.A.in1) hh it l hli its.toArray;obtain⟨c,hc⟩:=M.hold;refine codeAny_builtin PySem.F.entry_min_loop ?_
  rw[Around.under_plainId BO _];show Au _ X.A.in1 (seqItems? (.ref st) >>= _) _ _ _;refine Ad (wpAny_seqItems hc rfl ?_);show Au _ X.A.in1 (tryCatch (pyNext (.ref it)) _ >>= _) _ _ _;refine Ad (Dh (W.done _ _ _ ⟨by rw[Ap,hlen,<- hend];exact M.iter,pl.isList⟩ λh1 tk1 hk1=>?_));have I1:=M.inv.moved (t':=tk1) M.fi hk1;have hc1:=hk1 st _ (by simpa using M.ne) hc;have sb:=BZ h1 st (A0 λ_=>(#[]:Array Value));show Au _ X.A.in1 (updateSeq st (λ_=>#[]) >>= _) _ _ _;refine Ad ?_
  refine wpAny_updateSeq hc1 rfl (Ad (wpAny_letGo (An ?_)));have I2:Inv X pins σ H { s with heap:=h1.update st (A0 λ_=>(#[]:Array Value)),toks:=tk1 }:=I1.moved (s:={ s with heap:=h1,toks:=tk1 }) (t':=tk1) M.fs (λb o hb e=>(sb.2 b λz=>hb (by simp[z])).trans e);exact⟨xb,H,I2,rb,hQ i xb H hxb (by rw[<- hend];exact best) hS⟩
 |succ r ih =>
  intro j i H s vb xb b hr0 hj hS M hxb rb kb' hij best;have hlt:j+1<xs.length:=by lia
  obtain⟨its,rv,pl,hz⟩:=M.inv.list (hS.seq hl);have hlen:its.length=xs.length:=rv.length.symm;have W:=Walks.list (prog:=X.prog) (w:=X.w) (A:=X.A.in1) hh it l hli its.toArray;obtain⟨c,hc⟩:=M.hold;refine codeAny_builtin PySem.F.entry_min_loop ?_
  rw[Around.under_plainId BO _];show Au _ X.A.in1 (seqItems? (.ref st) >>= _) _ _ _;refine Ad (wpAny_seqItems hc rfl ?_);show Au _ X.A.in1 (tryCatch (pyNext (.ref it)) _ >>= _) _ _ _;refine Ad (Dh (W.item (j+1) _ _ _ (by rw[Ap,hlen];exact hlt) ⟨M.iter,pl.isList⟩ λv h1 tk1 hP hst1 hk1=>?_));have hv:its[j+1]?=some v:=by simpa using hP
  obtain⟨x,hx⟩:∃x,xs[j+1]?=some x:=⟨_,Aa hlt⟩;obtain⟨v',hv',rx⟩:=rv.get hx;rw[hv]at hv'
  cases hv'
  have M1:MK X pins σ H { s with heap:=h1,toks:=tk1 } it st l (j+1+1) vb (.ref b):=⟨M.inv.moved (t':=tk1) M.fi hk1,M.fi,M.fs,M.ne,hst1.1,c,hk1 st _ (by simpa using M.ne) hc⟩;show Au _ X.A.in1 (tryCatch (Dt [v] (call (.ref f) [v])) _ >>= _) _ _ _;refine Ad (Dh (By (BQ (zj2 F hr hb M1 rx (turn (j+1) x H hx hS) (E:=λ_ _=>False)) (λkv s2 he=>?_) λ_ _ hF=>hF.elim)));obtain⟨y,H2,ry,⟨hS2,a2,ey,ka2⟩,M2⟩:=he;subst ey
  cases (show kv=At a2 from ry)
  have hS3:=hS.trans hS2;have kb2:SqT X.K H2 b ((κ i).map V.int):=hS2.seqT kb';show Au _ X.A.in1 (tryCatch (Dt [v,.ref a2] (richCompare .Lt (.ref a2) (.ref b) >>= _)) _ >>= _) _ _ _;refine Ad (Dh (By (Ad (zly hr.un1 M2.inv ka2 kb2 ?_))));refine Ad (By (BL ?_));refine Ad (wpAny_letGo (An ?_));obtain⟨c2,hc2⟩:=M2.hold
  by_cases hbt:HT.lexLt (κ (j+1)) (κ i)=true
  .simp only[hbt,if_true];refine Ad ?_
   refine wpAny_updateSeq hc2 rfl (Ad (wpAny_letGo ?_));rw[nm];exact An ⟨plainId_quiet BO _,ih (j+1) (j+1) H2 _ v _ a2 (by lia) hlt hS3 M2.set hx rx ka2 (Ai _) (best.take hbt (by lia))⟩
  .have hbf:HT.lexLt (κ (j+1)) (κ i)=false:=by simpa using hbt
   simp only[hbf,CY,if_false];refine Ad (wpAny_letGo ?_);rw[nm];exact An ⟨plainId_quiet BO _,ih (j+1) i H2 _ vb _ b (by lia) hlt hS3 M2 hxb rb kb2 (by lia) (best.next hbf (by lia))⟩
end
section
variable {X:Cx}{k:Nat}{f:Addr}{fd:Bv}{ps:List Str}{sp:Sp}{pins:List (Addr×Obj)}{σ:St}{H0:Hp}{Q:VK}{l it st:Addr}{xs:List V}{κ:Nat->List Int}
structure MK0 (X:Cx) (pins:List (Addr×Obj)) (σ:St) (H:Hp) (s:Ab) (it st l:Addr) (j:Nat):Prop where
 inv:Inv X pins σ H s
 fi:FpOk X pins H it
 fs:FpOk X pins H st
 ne:st≠it
 iter:s.heap.IsListIter it l j
 hold:∃c,s.heap.get? st=some (BE "list" #[] c)
theorem ziW{H:Hp}{s:Ab}{Q1:VK}{u:Value}{x:V}{E:Value -> Ab -> Prop}{j:Nat}(F:FnOk X.prog X.w X.K X.mg X.base CX0 k f fd ps sp)(hr:Room (k + 1) X.A)(hb:Binds X.K fd ps [])
    (M:MK0 X pins σ H s it st l j) (r:RelV x u) (h:sp [x] H Q1 E0):Au (AA X.prog X.w) X.A.in1 (call (.ref f) [u]) (λv s'=>∃y H',RelV y v/\Q1 y H'/\MK0 X pins σ H' s' it st l j) E s:=by
  obtain⟨c,hc⟩:=M.hold;obtain⟨oi,hoi,ci,di⟩:=id M.iter
  have I1:Inv X (pins ++ zdn [it, st] s.heap) σ H s := M.inv.pinned (λb hb => by
      rcases Av.mp hb with rfl |hb
      . exact M.fi
      . rw[Ah.mp hb];exact M.fs) (λb hb=>by
      rcases Av.mp hb with rfl |hb
      . exact zd6 M.iter
      . rw[Ah.mp hb];exact⟨_,hc,zcw⟩)
  refine BQ (ziV F hr hb I1 (.cons r .nil) h) (λv s' hv=>?_) λ_ _ e=>e
  obtain⟨y,H',I2,ry,q⟩:=hv;have p1:=I2.pin (it,oi) (Ak _ (Ak _ (za1 (by simp) hoi)));have p2:=I2.pin (st,BE "list" #[] c) (Ak _ (Ak _ (za1 (by simp) hc)));exact⟨y,H',ry,q,I2.unpinned,M.fi.again p1.2.1,M.fs.again p2.2.1,M.ne,⟨oi,p1.1,ci,di⟩,c,p2.1⟩
theorem MK0.set{H:Hp}{s:Ab}{j:Nat}{v kv:Value}(M:MK0 X pins σ H s it st l j):MK X pins σ H { s with heap:=s.heap.update st (A0 λ_=>#[v,kv]) } it st l j v kv:=by obtain⟨c,hc⟩:=M.hold;have sb:=BZ s.heap st (A0 λ_=>#[v,kv]);obtain⟨oi,hoi,ci,di⟩:=id M.iter;exact⟨M.inv.moved (t':=s.toks) M.fs (λb o hb e=>(sb.2 b λz=>hb (by simp[z])).trans e),M.fi,M.fs,M.ne,⟨oi,(sb.2 it M.ne.symm).trans hoi,ci,di⟩,_,Dv hc λ_=>#[v,kv]⟩
theorem zjP{s:Ab}(hh:X.A.handled=none)(F:FnOk X.prog X.w X.K X.mg X.base CX0 k f fd ps sp)(hr:Room (k + 1) X.A)(hb:Binds X.K fd ps [])
  (turn:∀i x H,xs[i]?=some x->Same H0 H->sp [x] H (λv H'=>Same H H'/\∃a,v=.ref a/\SqT X.K H' a ((κ i).map V.int)) E0)
  (hl:SqL X.K H0 l xs) (hne:0<xs.length) (hQ:∀i x H',xs[i]?=some x->Least κ xs.length i->Same H0 H'->Q x H') (I:Inv X pins σ H0 s) :
  Au (AA X.prog X.w) X.A (call (.builtin "min") [.ref l] [(BW "key",.ref f)]) (EP X pins σ Q) X.xe s:=by
 have nm:(toString "min" ++ toString ".loop" : String) = "min.loop":=by decide
 obtain⟨its,rv,pl,hz⟩:=I.list hl;have hlen:its.length=xs.length:=rv.length.symm;have hll:l<s.heap.objs.size:=by obtain⟨o,ho,_⟩:=pl.isList;exact AD ho
 refine kmk_tree PySem.F.kind_min PySem.F.plain_min PySem.F.entry_min (kmk_min_key _ _) ?_
 show Au _ X.A.in1 (Cm "min" ["key","default"] 0 ⟨[],[(BW "key",.ref f)]⟩ >>= _) _ _ s;refine Ad (wpAny_of_eq (show Cm "min" ["key","default"] 0 ⟨[],[(BW "key",.ref f)]⟩=pure [some (.ref f),none] from rfl) ?_);refine Ad (An ?_);refine Ad (wpAny_pyIter_list pl.isList ?_);refine Ad (wpAny_newList ?_ (Be _));rw[nm];refine An ⟨plainId_quiet BO _,?_⟩;have keep:∀b o,s.heap.get? b=some o->((s.heap.push { cls:=.type "list_iterator",data:=.fields #[.ref l,.int 0 0] }).push (BE "list" #[] 0)).get? b=some o:=λb o e=>Al _ (Al _ e)
 have gi:((s.heap.push { cls:=.type "list_iterator",data:=.fields #[.ref l,.int 0 0] }).push (BE "list" #[] 0)).get? s.heap.objs.size=some { cls:=.type "list_iterator",data:=.fields #[.ref l,.int 0 0] }:=Al _ (AU _ rfl);have hsS:(s.heap.push { cls:=.type "list_iterator",data:=.fields #[.ref l,.int 0 0] }).objs.size=s.heap.objs.size+1:=size_push' ..;have gs:((s.heap.push { cls:=.type "list_iterator",data:=.fields #[.ref l,.int 0 0] }).push (BE "list" #[] 0)).get? (s.heap.objs.size+1)=some (BE "list" #[] 0):=by rw[<- hsS];exact AU _ rfl
 rw[hsS];have I1:Inv X pins σ H0 { s with heap:=(s.heap.push { cls:=.type "list_iterator",data:=.fields #[.ref l,.int 0 0] }).push (BE "list" #[] 0) }:=I.kept (t':=s.toks) keep;have fi:FpOk X pins H0 s.heap.objs.size:=I.fpOk (Ai _) (I.hok.fresh (Ai _));have fs:FpOk X pins H0 (s.heap.objs.size+1):=I.fpOk (CT _) (I.hok.fresh (CT _));have M0:MK0 X pins σ H0 _ s.heap.objs.size (s.heap.objs.size+1) l 0:=⟨I1,fi,fs,Nat.ne_of_gt (Nat.lt_succ_self _),⟨_,gi,rfl,rfl⟩,⟨0,gs⟩⟩;have hli:l≠s.heap.objs.size:=A9 hll;have W:=Walks.list (prog:=X.prog) (w:=X.w) (A:=X.A.in1) hh s.heap.objs.size l hli its.toArray;refine codeAny_builtin PySem.F.entry_min_loop ?_
 rw[Around.under_plainId BO _];show Au _ X.A.in1 (seqItems? (.ref _) >>= _) _ _ _;refine Ad (wpAny_seqItems gs rfl ?_);show Au _ X.A.in1 (tryCatch (pyNext (.ref s.heap.objs.size)) _ >>= _) _ _ _;obtain⟨its2,rv2,pl2,_⟩:=I1.list hl;refine Ad (Dh (W.item 0 _ _ _ (by rw[Ap,hlen];exact hne) ⟨M0.iter,pl.isList.at λo e=>keep _ _ e⟩ λv h1 tk1 hP hst1 hk1=>?_));have hv:its[0]?=some v:=by simpa using hP
 obtain⟨x,hx⟩:∃x,xs[0]?=some x:=⟨_,Aa hne⟩;obtain⟨v',hv',rx⟩:=rv.get hx;rw[hv]at hv'
 cases hv'
 have M1:MK0 X pins σ H0 { s with heap:=h1,toks:=tk1 } s.heap.objs.size (s.heap.objs.size+1) l 1:=⟨I1.moved (t':=tk1) fi hk1,fi,fs,M0.ne,hst1.1,0,hk1 _ _ (by simp) gs⟩;show Au _ X.A.in1 (tryCatch (Dt [v] (call (.ref f) [v])) _ >>= _) _ _ _;refine Ad (Dh (By (BQ (ziW F hr hb M1 rx (turn 0 x H0 hx (Same.refl _)) (E:=λ_ _=>False)) (λkv s2 he=>?_) λ_ _ hF=>hF.elim)));obtain⟨y,H2,ry,⟨hS2,a2,ey,ka2⟩,M2⟩:=he;subst ey
 cases (show kv=At a2 from ry)
 obtain⟨c2,hc2⟩:=M2.hold;show Au _ X.A.in1 (updateSeq (s.heap.objs.size+1) (λ_=>#[v,.ref a2]) >>= _) _ _ _;refine Ad ?_
 refine wpAny_updateSeq hc2 rfl ?_
 rw[nm];refine An ⟨plainId_quiet BO _,?_⟩
 exact codeAny_mono (zjs hh F hr hb turn hl hli hQ _ 0 0 H2 _ v _ a2 rfl hne hS2 M2.set hx rx ka2 (Ai _) (λj hj=>by
  have e:j=0:=by lia
  subst e;exact⟨HT.lexLt_irrefl _,λz=>absurd z (Cn _)⟩)) λr s' hr'=>hr'
end
end L2
namespace RK
open PySem PySem.W PyProof.Rows
variable {n:Nat}{ans:Nat->Nat->Bool}
noncomputable def Pm(n:Nat)(p:Array Nat):Prop:=p.Perm (List.toArray (BD n))
inductive Col:Value->Value->Int->Int->Prop where
 |int (a:Int) (t:Tok) (b:Int) (u:Tok):Col (.int a t) (.int b u) a b
 |bl (p q:Bool):Col (.bool p) (.bool q) (b2i p) (b2i q)
inductive Cols:List Value->List Value->List Int->List Int->Prop where
 |nil:Cols [] [] [] []
 |cons {u v:Value} {us vs:List Value} {a b:Int} {as bs:List Int}:Col u v a b->Cols us vs as bs->Cols (u::us) (v::vs) (a::as) (b::bs)
section
variable {prog:AF}{w:A4}{A:AQ}{s:Ab}{Q:Bool->Ab->Prop}
theorem zk3{u v:Value}{a b:Int}(c:Col u v a b){E:Value->Ab->Prop}(h:Q (decide (a=b)) s):Au (AA prog w) A (eqBool u v) Q E s:=by
 cases c with
 |int _ t _ u =>
  refine wpAny_eqBool_int ?_
  rw[show (a == b)=decide (a=b) from by rw[Bool.beq_eq_decide_eq]];exact h
 |bl p q =>
  refine SeqAt.EqAt.bool_bool p q prog w E Q ?_
  have e:(p == q)=decide (b2i p=b2i q):=by cases p <;> cases q <;> decide
  rw[e];exact h
theorem zms{u v:Value}{a b:Int}(c:Col u v a b){E:Value->Ab->Prop}(h:Q (decide (a<b)) s):Au (AA prog w) A (oneLt' false u v) Q E s:=by
 cases c with
 |int _ t _ u=>exact kat_one _ _ (lt_int (show W.BoolBack Q (.bool (decide (a<b))) s from h))
 |bl p q=>exact kat_one _ _ (lt_bool (show W.BoolBack Q (.bool (decide (b2i p<b2i q))) s from h))
theorem zhM{bb:Bool}:∀{us vs:List Value}{as bs:List Int}(i:Nat),Cols us vs as bs->Q (HT.lexLt as bs) s->KatLex prog w A bb false Q (us.zip vs) (i+1) s
 |_,_,_,_,_,.nil,h=>kat_nil h
 |_,_,_,_,i,.cons (a:=a) (b:=b) (as:=as) (bs:=bs) c r,h=>by
  rw[HT.lexLt_cons]at h;refine kat_cons (zk3 c ?_)
  by_cases e:a=b
  .rw[decide_eq_true e];rw[if_pos e]at h;exact kat_yes (zhM (i+1) r h)
  .rw[decide_eq_false e];rw[if_neg e]at h;refine kat_no ?_
   rw[show (bb && (i+1 == 0))=false by simp];exact zms c h
theorem kat_cols0{us vs:List Value}{as bs:List Int}{a b:Int}{t u:Tok}(r:Cols us vs as bs)(h:Q (HT.lexLt (a::as) (b::bs)) s):KatLex prog w A true false Q ((Value.int a t::us).zip (Value.int b u::vs)) 0 s:=by
 rw[HT.lexLt_cons]at h;refine kat_cons (zk3 (.int a t b u) ?_)
 by_cases e:a=b
 .rw[decide_eq_true e];rw[if_pos e]at h;exact kat_yes (zhM 0 r h)
 .rw[decide_eq_false e];rw[if_neg e]at h;exact kat_no (oneLt_int h)
end
end RK
namespace L2
open PySem PySem.Spec PyProof.Rows
section
variable {X:Cx}{k:Nat}{f:Addr}{fd:Bv}{ps:List Str}{sp:Sp}{pins:List (Addr×Obj)}{σ:St}{H0:Hp}{Q:VK}
theorem Inv.adopt{H:Hp}{s:Ab}{D:Addr}{o:HO}{h':Heap}{t':Nat}(I:Inv X pins σ H s)(fb:FpOk X pins H D)(hk:∀b u, b ≠ D -> s.heap.get? b=some u -> h'.get? b=some u)(heo:∃u, h'.get? D=some u)
  (new:ObjOk X.prog X.w (upd H D o) h' D o):Inv X pins σ (upd H D o) { s with heap:=h',toks:=t' }:=by
 have hn:=fb.1;have nit:∀b u,H b=some u->b≠D:=λb u e z=>by rw[z,hn]at e;cases e
 refine I.step (g':=s.gens) (d':=s.drawn) (ch:=[D]) (λb hb=>?_) (λb u _ _ hc e _=>hk b u (λz=>hc (by simp[z])) e) (λb u _ _ hc e _=>⟨u.slots,hk b u (λz=>hc (by simp[z])) e⟩)
  (λb u hc _ n=>by rw[zam (λz=>hc (by simp[z]))];exact n)
  (λb u hc e=>⟨u,hk b u (λz=>hc (by simp[z])) e⟩) (λb xs e=>by rw[zam (nit _ _ e)];exact e) (λb u xs e=>by rw[zam (nit _ _ e)];exact e) (λb ps e=>⟨#[],by rw[zam (nit _ _ e),e];simp⟩) (λm hm=>?_) (λb u e=>?_) I.bare
 .have e:b=D:=by simpa using hb
  subst e;exact⟨fb.2.2.2.1,fb.2.1,fb.2.2.2.2.1,fb.2.2.2.2.2⟩
 .obtain⟨u,es,ep,ho,r⟩:=hm;exact⟨u,es,ep,hk _ u (B8 fb.2.1) ho,r⟩
 .by_cases hb:b=D
  .subst hb;rw[zaa]at e;cases e;exact new
  .rw[zam hb]at e;refine (I.hok b u e).stay (λc v hc q=>hk c v ?_ q) (λc q=>by rw[zam (nit _ _ q)];exact q) λc xs q=>by rw[zam (nit _ _ q)];exact q
   rcases hc with z |z
   .rw[z];exact nit b u e
   .exact nit c _ z
theorem zlf{H:Hp}{s:Ab}{Q:VK}{us:List Value}{vs:List V}{E:Value -> Ab -> Prop}(F:FnOk X.prog X.w X.K X.mg X.base CX0 k f fd ps sp)(hr:Room (k + 1 + 1) X.A)(hb:Binds X.K fd ps [])
  (I:Inv X pins σ H s) (r:Vals vs us) (h:sp vs H Q E0):Au (AA X.prog X.w) X.A.in1.in1 (call (.ref f) us) (EP X pins σ Q) E s:=by
 have hl:(us++[]).length=ps.length:=by rw[AH,<- r.length];exact F.len _ _ _ _ h
 have hb':=hb s us I.kIn hl;rw[AH]at hb';refine wpAny_call (codeAny_mono (F.run X.A.in1.in1 X.stack s H ⟨us,[]⟩ us vs Q E0 hr.in1.in1 I.env0.in1.in1 hb' r h) λr s' hq=>?_)
 cases r with
 |error e=>exact BI hq
 |ok fl =>
  cases fl with
  |ret u=>exact I.after hq
  |next=>exact BI hq
  |brk=>exact BI hq
  |cont=>exact BI hq
noncomputable def zh2(X:Cx)(σ:St)(H0:Hp)(f:Addr)(xs:List V)(κV:Nat->List V):Prop:=∀(pins:List (Addr×Obj)) (i:Nat) (x:V) (u:Value) (H:Hp) (s:Ab),xs[i]?=some x->Same H0 H->Inv X pins σ H s->RelV x u ->
 Au (AA X.prog X.w) X.A.in1.in1 (call (.ref f) [u]) (EP X pins σ λv H'=>Same H H'/\∃a,v=.ref a/\SqT X.K H' a (κV i)) (λ_ _=>False) s
theorem zmk{xs:List V}{κV:Nat -> List V}(F:FnOk X.prog X.w X.K X.mg X.base CX0 k f fd ps sp)(hr:Room (k + 1 + 1) X.A)(hb:Binds X.K fd ps [])
  (turn:∀i x H,xs[i]?=some x->Same H0 H->sp [x] H (λv H'=>Same H H'/\∃a,v=.ref a/\SqT X.K H' a (κV i)) E0):zh2 X σ H0 f xs κV :=
 λ_ i x _ H _ hx hS I ru=>zlf F hr hb I (.cons ru .nil) (turn i x H hx hS)
inductive VCol:V->V->Int->Int->Prop where
 |int (a b:Int):VCol (.int a) (.int b) a b
 |bl (p q:Bool):VCol (.bl p) (.bl q) (b2i p) (b2i q)
inductive VCols:List V->List V->List Int->List Int->Prop where
 |nil:VCols [] [] [] []
 |cons {x y:V} {xs ys:List V} {a b:Int} {as bs:List Int}:VCol x y a b->VCols xs ys as bs->VCols (x::xs) (y::ys) (a::as) (b::bs)
theorem VCols.vals:∀{xs ys:List V}{as bs:List Int}{us vs:List Value},VCols xs ys as bs->Vals xs us->Vals ys vs->RK.Cols us vs as bs
  |_,_,_,_,_,_,.nil,.nil,.nil=>.nil
  |_, _, _, _, _, _, .cons c r, .cons h t, .cons g q => .cons (by
      cases c with
      |int a b=>obtain⟨t,rfl⟩:=h;obtain⟨u,rfl⟩:=g;exact .int _ _ _ _
      |bl p q=>cases h;cases g;exact .bl _ _) (r.vals t q)
structure SK (X:Cx) (pins:List (Addr×Obj)) (σ:St) (H:Hp) (s:Ab) (D st:Addr) (e:Nat) (κV:Nat->List V) (ks:List Addr):Prop where
 inv:Inv X pins σ H s
 fd:FpOk X pins H D
 fs:FpOk X pins H st
 ne:st≠D
 hd:s.heap.get? D=some (BE "list" #[] e)
 hs:∃c,s.heap.get? st=some (BE "list" (ks.map At).toArray c)
 hk:∀i a,ks[i]?=some a->SqT X.K H a (κV i)
theorem zhP{M:Model}{A:AQ}{E:Value -> Ab -> Prop}{body:Value -> PUnit -> Sem (ForInStep PUnit)}{vs:List Value}(P:Nat -> Ab -> Prop)
  (hb:∀i x s,vs[i]?=some x->P i s->Au M A (body x ⟨⟩) (λr s'=>r=.yield ⟨⟩/\P (i+1) s') E s):∀(r:List Value) (i:Nat) (s:Ab),vs.drop i=r->i<=vs.length->P i s ->
   Au M A (forIn r PUnit.unit body) (λ_ s'=>P vs.length s') E s
 |[],i,s,hr,hi,h=>by
  rw[List.forIn_nil];have:vs.length<=i:=List.drop_eq_nil_iff.mp hr;exact An (by rw[show vs.length=i by lia];exact h)
 |x::r,i,s,hr,hi,h=>by
  have hx:vs[i]?=some x:=by have:=congrArg (·[0]?) hr;simpa using this
  have hlt:i<vs.length:=(Ac.mp hx).1;have hr':vs.drop (i+1)=r:=by rw[<- List.tail_drop,hr];rfl
  rw[List.forIn_cons];refine Ad (BQ (hb i x s hx h) (λq s' hq=>?_) λ_ _ e=>e);obtain⟨rfl,h'⟩:=hq;exact zhP P hb r (i+1) s' hr' hlt h'
end
section
variable {X:Cx}{pins:List (Addr×Obj)}{σ:St}{H:Hp}{s:Ab}{D st:Addr}{e:Nat}{κV:Nat->List V}{ks:List Addr}{E:Value->Ab->Prop}
noncomputable def zh3(X:Cx)(G:Array Nat->Prop)(ks vs:List Value)(E:Value->Ab->Prop)(s:Ab):Prop :=
 Au (AA X.prog X.w) X.A.in1.in1 (keyKind' ks.toArray) (λκ s0=>s0=s /\
  Au (AA X.prog X.w) X.A.in1.in1 ((sortRuns').run (SortSt.mk' κ (ks.toArray.zip vs.toArray) #[] 7 none)) (λr s'=>s'=s/\Cg r.2=none/\∃p:Array Nat,G p/\p.size=vs.length/\Aq r.2=p.map (Di (ks.toArray.zip vs.toArray))) E s) E s
theorem zjy{as:List Addr}(I:Inv X pins σ H s):∀{ks:List Addr}{vs:List (List V)}{ns:List Int}, (∀(i:Nat) (a:Addr), ks[i]? = some a -> ∃n r, ns[i]? = some n /\ SqT X.K H a (.int n :: r)) -> ns.length=ks.length ->
  ∃fs:List Value,W.KatTups s.heap (ks.map At) fs/\fs.length=ks.length/\∀v∈fs,∃n t,v=Value.int n t
 |[],_,_,_,_=>⟨[],.nil,rfl,λ_ h=>nomatch h⟩
 |a::r,vs,[],_,h=>by cases h
 |a::r,vs,n::ns,hk,h=>by
  obtain⟨m,q,e1,hq⟩:=hk 0 a rfl;obtain⟨fs,t,hl,hi⟩:=zjy (as:=as) (vs:=vs) I (ks:=r) (ns:=ns) (λi b hb=>by simpa using hk (i+1) b (by simpa using hb)) (by simpa using h);obtain⟨its,rv,⟨o,ho,hc,c,hd⟩,_⟩:=I.tuple hq
  cases rv with
  |cons rx rr =>
   obtain⟨t1,rfl⟩:=rx;refine⟨Value.int m t1::fs,.cons ho hc hd (by simp) t,by simp[hl],λv hv=>?_⟩;rcases Av.mp hv with rfl |hv
   .exact⟨_,_,rfl⟩
   .exact hi v hv
end
section
variable {X:Cx}{k:Nat}{f:Addr}{fd:Bv}{ps:List Str}{sp:Sp}{pins:List (Addr×Obj)}{σ:St}{H0 H:Hp}{s:Ab}{D st l:Addr}{e:Nat}{κV:Nat->List V}{ks:List Addr}{E:Value->Ab->Prop}{G:Array Nat->Prop}{xs:List V}{vs:List Value}{Q:VK}
noncomputable def outV(xs:List V)(p:Array Nat):List V:=p.toList.map λi=>xs.getD i .non
theorem ziB{xs:List V}{vs:List Value}(r:Vals xs vs)(i:Nat)(hi:i<xs.length):RelV (xs.getD i .non) (vs.getD i Dx):=by
 have hx:xs[i]?=some xs[i]:=by simp[hi]
 obtain⟨u,hu,ru⟩:=r.get hx;rw[AB,hx,AB,hu];exact ru
theorem zhl{xs:List V}{vs:List Value}(r:Vals xs vs):∀(l:List Nat),(∀i∈l,i<xs.length)->Vals (l.map λi=>xs.getD i .non) (l.map λi=>vs.getD i Dx)
 |[],_=>.nil
 |i::t,h=>.cons (ziB r i (h i AE)) (zhl r t λj hj=>h j (Az _ hj))
theorem zg0{p:Array Nat}:(outV xs p).length=p.size:=by unfold outV;simp
theorem zlc{P:PySem.Fin -> Ab -> Prop}{so:AM}{out:List Value}{ys:List V}(K:SK X pins σ H s D st e κV ks)(hks:ks.length <= sizeLine)(ho:(Aq so).map (·.2)=out.toArray)(ry:Vals ys out)(hz:ys.length <= sizeLine)(hf:Cg so=none)
  (h:∀s',Inv X pins σ (upd H D (.lst ys)) s'->P (.done (.ret .none)) s'):Au (AA X.prog X.w) X.A.in1.in1 (ksk_tail D false e (.ref st) so) P E s:=by
 obtain⟨c,hc⟩:=K.hs;have hzo:out.length<=sizeLine:=by rw[<- ry.length];exact hz
 have s1:=BZ s.heap st (A0 λ_=>(#[]:Array Value));have hd1:(s.heap.update st (A0 λ_=>(#[]:Array Value))).get? D=some (BE "list" #[] e):=(s1.2 D K.ne.symm).trans K.hd;have s2:=BZ (s.heap.update st (A0 λ_=>(#[]:Array Value))) D (A0 λ_=>out.toArray);obtain⟨c2,hc2⟩:∃c2,((s.heap.update st (A0 λ_=>(#[]:Array Value))).update D (A0 λ_=>out.toArray)).get? D=some (BE "list" out.toArray c2):=⟨_,Dv hd1 λ_=>out.toArray⟩;unfold ksk_tail
 try dsimp only
 rw[ho];refine Ad (listUpdate_at hc rfl ?_ (by simpa using hks) (Be _));refine Ad (wpAny_letGo ?_);refine Ad (seqEpoch_at hd1 rfl ?_);simp only[CY,if_false];refine Ad (listUpdate_at hd1 rfl ?_ (Be _) (by simp;lia));rw[hf];simp only[bne_self_eq_false,CY,if_false];refine An (h _ ?_);have I1:Inv X pins σ H { s with heap:=s.heap.update st (A0 λ_=>(#[]:Array Value)) }:=K.inv.moved (t':=s.toks) K.fs (λb o hb e=>(s1.2 b λz=>hb (by simp[z])).trans e);exact I1.adopt (t':=s.toks) K.fd (λb u hb q=>(s2.2 b hb).trans q) ⟨_,hc2⟩ ⟨hz,out,c2,ry,hc2⟩
theorem zlY{P:PySem.Fin -> Ab -> Prop}(K:SK X pins σ H s D st e κV ks)(hl:ks.length=vs.length)(r:Vals xs vs)(hz:xs.length <= sizeLine)(hG:∀p, G p -> ∀i ∈ p.toList, i < xs.length)
  (h0:vs.length<2->G (List.toArray (BD vs.length))) (core:2<=vs.length->zh3 X G (ks.map At) vs E s)
  (h:∀p s',G p->p.size=xs.length->Inv X pins σ (upd H D (.lst (outV xs p))) s'->P (.done (.ret .none)) s'):Au (AA X.prog X.w) X.A.in1.in1 (ksk_end D false vs.toArray e (.ref st) (ks.map At).toArray) P E s:=by
 have hlx:xs.length=vs.length:=r.length;have hl':(ks.map At).length=vs.length:=by simp[hl]
 have fin:∀(p:Array Nat) (so:AM),G p->p.size=vs.length->Aq so=p.map (Di ((ks.map At).toArray.zip vs.toArray))->Cg so=none->Au (AA X.prog X.w) X.A.in1.in1 (ksk_tail D false e (.ref st) so) P E s:=λp so g hp ha hf =>
  zlc K (by lia) (W.kat_snds hl' ha) (ys:=outV xs p) (zhl r _ (hG p g)) (by rw[zg0];lia) hf λs' I'=>h p s' g (by lia) I'
 unfold ksk_end
 try dsimp only
 simp only[CY,if_false]
 by_cases h2:vs.length<2
 .have h2':vs.toArray.size<2:=by simpa using h2
  rw[if_pos h2',if_pos h2'];refine Ad (An ?_);show Au (AA X.prog X.w) X.A.in1.in1 (pure ((),SortSt.mk' general' ((ks.map At).toArray.zip vs.toArray) #[] 7 none) >>= _) P E s;refine Ad (An ?_)
  try dsimp only
  refine fin (List.toArray (BD vs.length)) _ (h0 h2) (by simp) ?_ rfl;have:=W.kas_range ((ks.map At).toArray.zip vs.toArray);rw[show ((ks.map At).toArray.zip vs.toArray).size=vs.length by simp[hl]]at this;exact this.symm
 .have h2':¬ vs.toArray.size<2:=by simpa using h2
  rw[if_neg h2',if_neg h2'];refine Ad (BQ (core (by lia)) (λκ s0 hk=>?_) λ_ _ z=>z);obtain⟨rfl,hk⟩:=hk;refine Ad (BQ hk (λr' s' hr=>?_) λ_ _ z=>z);obtain⟨rfl,hf,p,g,hp,ha⟩:=hr;obtain⟨⟨⟩,so⟩:=r'
  try dsimp only
  exact fin p so g hp ha hf
theorem zld{P:PySem.Fin -> Ab -> Prop}(F:zh2 X σ H0 f xs κV)
    (K:SK X pins σ H0 s D st e κV []) (r:Vals xs vs) (hz:xs.length<=sizeLine)
    (h:∀H' s' ks,ks.length=vs.length->Same H0 H'->SK X pins σ H' s' D st e κV ks->Au (AA X.prog X.w) X.A.in1.in1 (ksk_end D false vs.toArray e (.ref st) (ks.map At).toArray) P E s') :
    Au (AA X.prog X.w) X.A.in1.in1 (ksk_rest D (.ref f) false vs.toArray e (.ref st)) P E s:=by
  have hlx:xs.length=vs.length:=r.length;unfold ksk_rest;refine Ad (CO ?_);rw[List.forIn_toArray];refine Ad (BQ (zhP (vs:=vs) (λi s'=>∃H' ks,ks.length=i/\Same H0 H'/\SK X pins σ H' s' D st e κV ks) (λi x s1 hx hP=>?_) vs 0 s rfl (Be _) ⟨H0,[],rfl,Same.refl _,K⟩) (λ_ s' hd=>?_) λ_ _ z=>z)
  . obtain⟨H1,ks,hkl,hS,K1⟩:=hP;have hi:i<xs.length:=by rw[hlx];exact (Ac.mp hx).1
    have hxx:xs[i]?=some xs[i]:=by simp[hi]
    obtain⟨u,hu,ru⟩:=r.get hxx;rw[hx]at hu
    cases hu
    obtain⟨c,hc⟩:=K1.hs
    have I1:Inv X (pins ++ zdn [D, st] s1.heap) σ H1 s1 := K1.inv.pinned (λb hb => by
        rcases Av.mp hb with rfl |hb
        . exact K1.fd
        . rw[Ah.mp hb];exact K1.fs) (λb hb=>by
        rcases Av.mp hb with rfl |hb
        . exact⟨_,K1.hd,zcw⟩
        . rw[Ah.mp hb];exact⟨_,hc,zcw⟩)
    refine Ad (wpAny_attempt (BQ (F _ i _ _ H1 _ hxx hS I1 ru) (λv s2 hv=>?_) λ_ _ hF=>hF.elim));obtain⟨y,H2,I2,ry,hS2,a,ey,ka⟩:=hv;subst ey
    cases (show v=At a from ry)
    have p1:=I2.pin (D,BE "list" #[] e) (Ak _ (Ak _ (za1 (by simp) K1.hd)));have p2:=I2.pin (st,BE "list" (ks.map At).toArray c) (Ak _ (Ak _ (za1 (by simp) hc)));have sb:=BZ s2.heap st (A0 (·.push (At a)));have ea:(ks.map At).toArray.push (At a)=((ks++[a]).map At).toArray:=by simp
    obtain⟨c2,hc2⟩:∃c2,(s2.heap.update st (A0 (·.push (At a)))).get? st=some (BE "list" ((ks++[a]).map At).toArray c2):=⟨_,by rw[<- ea];exact Dv p2.1 (·.push (At a))⟩
    try dsimp only
    refine Ad (listUpdate_at p2.1 rfl ?_ (by simp;lia) (by simp;lia));refine An ⟨rfl,H2,ks++[a],by simp[hkl],hS.trans hS2,I2.unpinned.moved (t':=s2.toks) (K1.fs.again p2.2.1) (λb o hb e=>(sb.2 b λz=>hb (by simp[z])).trans e),K1.fd.again p1.2.1,K1.fs.again p2.2.1,K1.ne,(sb.2 D K1.ne.symm).trans p1.1,⟨c2,hc2⟩,λj b hj=>?_⟩;rcases A8 j ks.length with hjl |hjl
    . rw[Ar hjl]at hj;exact hS2.seqT (K1.hk j b hj)
    . rw[AJ hjl]at hj
      have hj0:j-ks.length=0:=by have:=(Ac.mp hj).1;simp at this;lia
      rw[hj0]at hj
      cases AW hj
      rw[show j=i by lia];exact ka
  . obtain⟨H',ks,hkl,hS,K'⟩:=hd;obtain⟨c,hc⟩:=K'.hs
    try dsimp only
    refine Ad (listItems_at hc rfl ?_);exact h H' s' ks hkl hS K'
theorem zlb{P:PySem.Fin -> Ab -> Prop}{c0:Nat}(F:zh2 X σ H0 f xs κV)
  (I:Inv X pins σ H0 s) (fb:FpOk X pins H0 D) (hd:s.heap.get? D=some (BE "list" vs.toArray c0)) (r:Vals xs vs) (hz:xs.length<=sizeLine)
  (h:∀e H' s' ks st,ks.length=vs.length->Same H0 H'->SK X pins σ H' s' D st e κV ks->Au (AA X.prog X.w) X.A.in1.in1 (ksk_end D false vs.toArray e (.ref st) (ks.map At).toArray) P E s') :
  Au (AA X.prog X.w) X.A.in1.in1 (ksk_tree D (.ref f) false) P E s:=by
 have hlx:xs.length=vs.length:=r.length;have s1:=BZ s.heap D (A0 λ_=>(#[]:Array Value));obtain⟨e1,ho1⟩:∃e1,(s.heap.update D (A0 λ_=>(#[]:Array Value))).get? D=some (BE "list" #[] e1):=⟨_,Dv hd λ_=>#[]⟩;have hDl:D<s.heap.objs.size:=AD hd;unfold ksk_tree;refine Ad (listItems_at hd rfl ?_);refine Ad (listUpdate_at hd rfl ?_ (by simp;lia) (Be _));refine Ad (seqEpoch_at ho1 rfl ?_);refine Ad (wpAny_newTuple ?_ (by simp;lia));refine Ad (wpAny_newList ?_ (Be _));refine By ?_
 have I1:Inv X pins σ H0 { s with heap:=s.heap.update D (A0 λ_=>(#[]:Array Value)) }:=I.moved (t':=s.toks) fb (λb o hb e=>(s1.2 b λz=>hb (by simp[z])).trans e);have keep:∀b o,(s.heap.update D (A0 λ_=>(#[]:Array Value))).get? b=some o->(((s.heap.update D (A0 λ_=>(#[]:Array Value))).push (BE "tuple" vs.toArray.toList.toArray 0)).push (BE "list" #[] 0)).get? b=some o:=λb o q=>Al _ (Al _ q)
 have hsz:((s.heap.update D (A0 λ_=>(#[]:Array Value))).push (BE "tuple" vs.toArray.toList.toArray 0)).objs.size=s.heap.objs.size+1:=by rw[size_push',Heap.size_update]
 have I2:Inv X pins σ H0 { s with heap:=((s.heap.update D (A0 λ_=>(#[]:Array Value))).push (BE "tuple" vs.toArray.toList.toArray 0)).push (BE "list" #[] 0) }:=I1.kept (t':=s.toks) keep;show Au (AA X.prog X.w) X.A.in1.in1 (ksk_rest D (.ref f) false vs.toArray _ (.ref ((s.heap.update D (A0 λ_=>(#[]:Array Value))).push (BE "tuple" vs.toArray.toList.toArray 0)).objs.size)) P E { s with heap:=((s.heap.update D (A0 λ_=>(#[]:Array Value))).push (BE "tuple" vs.toArray.toList.toArray 0)).push (BE "list" #[] 0) };rw[hsz];have hss:(((s.heap.update D (A0 λ_=>(#[]:Array Value))).push (BE "tuple" vs.toArray.toList.toArray 0)).push (BE "list" #[] 0)).get? (s.heap.objs.size+1)=some (BE "list" #[] 0):=by rw[<- hsz];exact AU _ rfl
 exact zld F ⟨I2,fb,I.fpOk (CT _) (I.hok.fresh (CT _)),Nat.ne_of_gt (Nat.lt_succ_of_lt hDl),keep _ _ ho1,⟨0,by simpa using hss⟩,λi a ha=>by simp at ha⟩ r hz λH' s' ks a b c=>h _ H' s' ks _ a b c
end
section
variable {X:Cx}{k:Nat}{f:Addr}{fd:Bv}{ps:List Str}{sp:Sp}{pins:List (Addr×Obj)}{σ:St}{H0:Hp}{s:Ab}{l:Addr}{κV:Nat->List V}{G:Array Nat->Prop}{xs:List V}{Q:VK}
theorem zir(F:zh2 X σ H0 f xs κV)
  (hl:SqL X.K H0 l xs) (hG:∀p,G p->∀i∈p.toList,i<xs.length) (h0:xs.length<2->G (List.toArray (BD xs.length)))
  (core:∀{vs:List Value} {ks:List Addr} {H':Hp} {s':Ab} {D st:Addr} {e:Nat},Vals xs vs->SK X pins σ H' s' D st e κV ks->ks.length=vs.length->2<=vs.length->zh3 X G (ks.map At) vs X.xe s')
  (hQ:∀p D H',G p->p.size=xs.length->H0 D=none->Same H0 H'->H' D=some (.lst (outV xs p))->Q (.ref D) H') (I:Inv X pins σ H0 s) :
  Au (AA X.prog X.w) X.A (call (.builtin "sorted") [.ref l] [(BW "key",.ref f)]) (EP X pins σ Q) X.xe s:=by
 obtain⟨vs,r,pl,hz⟩:=I.list hl;have hlx:xs.length=vs.length:=r.length;refine call_function_entry_kw kind_sorted plain_sorted entry_sorted (ksk_s1 _ _) ?_
 unfold Builtin.«sorted»;refine Ad (m:=checkCount "sorted" 1 1 _) (An ?_);refine Ad (collect_list pl.isList ?_ (by first |lia | (rw[Ap];lia) | (simp;lia)));refine Ad (wpAny_newList ?_ (by first |lia | (rw[Ap];lia) | (simp;lia)));have hsz:((s.heap.push (BE "list" #[] 0)).update s.heap.objs.size (A0 (·++vs.toArray))).objs.size=s.heap.objs.size+1:=by rw[Heap.size_update,size_push']
 have hoL:(((s.heap.push (BE "list" #[] 0)).update s.heap.objs.size (A0 (·++vs.toArray))).push (BE "list" vs.toArray 0)).get? (s.heap.objs.size+1)=some (BE "list" vs.toArray 0):=by rw[<- hsz];exact AU _ rfl
 have keep:∀b o,s.heap.get? b=some o->(((s.heap.push (BE "list" #[] 0)).update s.heap.objs.size (A0 (·++vs.toArray))).push (BE "list" vs.toArray 0)).get? b=some o:=λb o q=>by have hlt:b<s.heap.objs.size:=AD q;rw[Heap.get?_push_ne _ _ _ (by rw[hsz];exact A9 (Nat.lt_succ_of_lt hlt)),Heap.get?_update_ne _ _ _ _ (A9 hlt),Heap.get?_push_ne _ _ _ (A9 hlt)];exact q
 show Au _ _ _ _ _ { s with heap:=((s.heap.push (BE "list" #[] 0)).update s.heap.objs.size (A0 (·++vs.toArray))).push (BE "list" vs.toArray 0) };rw[hsz];refine Ad (By (wpAny_call_entry_kw slot_list_sort ⟨_,hoL,rfl⟩ entry_list_sort ?body (ksk_l1 _ _)))
 case body =>
  show Au (AA X.prog X.w) X.A.in1.in1 (Builtin.«list.sort» ⟨[.ref (s.heap.objs.size+1)],[(BW "key",.ref f)]⟩) _ _ _;rw[ksk_t1];have I1:Inv X pins σ H0 { s with heap:=((s.heap.push (BE "list" #[] 0)).update s.heap.objs.size (A0 (·++vs.toArray))).push (BE "list" vs.toArray 0) }:=I.kept (t':=s.toks) keep;have hDn:H0 (s.heap.objs.size+1)=none:=I.hok.fresh (CT _);refine zlb F I1 (I.fpOk (CT _) hDn) hoL r hz λe H' s' ks st hks hS K=>?_
  refine zlY K hks r hz hG (λh2=>by rw[<- hlx];exact h0 (by lia)) (core r K hks) λp s2 g hp I2=>⟨_,rfl,?_⟩
  refine An ⟨_,rfl,.ref (s.heap.objs.size+1),_,I2,rfl,hQ p _ _ g hp hDn (λb o q=>?_) zaa⟩;rw[zam (zal q hDn)];exact hS b o q
end
section
variable {X:Cx}{x:Str}{p pos kp kpos:Pos}{e:Expr}{te:TE}{k:Nat}{f:Addr}{fd:Bv}{ps:List Str}{sp:Sp}{fn:Str}
noncomputable def tMinK(K:W.Frag)(te:TE)(sp:Sp):TE:=λσ H Q=>te σ H λv H1=>∃l xs,∃ κ:Nat->List Int,[v]=[V.ref l]/\SqL K H1 l xs/\0<xs.length /\
 (∀i x H2,xs[i]?=some x->Same H1 H2->sp [x] H2 (λv H'=>Same H2 H'/\∃a,v=.ref a/\SqT K H' a ((κ i).map V.int)) E0)/\∀i x H',xs[i]?=some x->Least κ xs.length i->Same H1 H'->Q x H'
theorem zlo (F:FnOk X.prog X.w X.K X.mg X.base CX0 k f fd ps sp) (hr:Room (k + 1) X.A) (hb:Binds X.K fd ps []) (hg:Gl X "min") (hm:X.mg "min" = none) (hgf:Gl X fn) (hmf:X.mg fn=some (.ref f)) (he:PE X e te)
  (hdb:(fn == ("__debug__" : Str))=false:=by decide) (hse:Bl [e] X.env=[(false,eval e X.env)]:=by rfl) (hh:X.calm=true:=by rfl)
  (hall:(Dr pos (Co [⟨some "key",.Name fn kp,kpos⟩] X.env)).all (·.1.isSome)=true:=by rfl) (hkw:(Dr pos (Co [⟨some "key",.Name fn kp,kpos⟩] X.env)).any (·.1.isNone)=false:=by rfl)
  (hks:(Dr pos (Co [⟨some "key",.Name fn kp,kpos⟩] X.env)).filterMap (·.1)=[BW "key"]:=by rfl) :
  PE X (.Call (.Name "min" p) [e] [⟨some "key",.Name fn kp,kpos⟩] pos) (tMinK X.K te sp):=by
 intro pins s σ H Q I h;refine Cs (zd8 I hg hm boot_min ?_ (by decide) (by decide))
 refine callWith_kw (thn (zag he zad (hs:=hse) pos pins s σ H (λvs H1=>∃l xs,∃ κ:Nat->List Int,vs=[V.ref l]/\SqL X.K H1 l xs/\0<xs.length /\
  (∀i x H2,xs[i]?=some x->Same H1 H2->sp [x] H2 (λv H'=>Same H2 H'/\∃a,v=.ref a/\SqT X.K H' a ((κ i).map V.int)) E0)/\∀i x H',xs[i]?=some x->Least κ xs.length i->Same H1 H'->Q x H') I ?_) λus s1 ⟨vs,H1,I1,r,q⟩=>?_) (by rw[hse];rfl) (by rw[hse];rfl) hall hkw
 .show te σ H _;exact h
 .obtain⟨l,xs,κ,rfl,hq,hne,turn,hQ⟩:=q;obtain⟨u,rfl,ru⟩:=Vals.one r
  cases (show u=At l from ru)
  refine thn (zi9 (nm:=some "key") (kpos:=kpos) (zdY (v:=.ref f) hgf hmf rfl hdb) zkJ pos pins s1 σ H1 (λzs H2=>zs=[.ref f]/\H2=H1) I1 ⟨rfl,rfl⟩) λws s2 ⟨zs,H2,I2,rz,q2⟩=>?_
  obtain⟨rfl,rfl⟩:=q2;obtain⟨u2,rfl,ru2⟩:=Vals.one rz
  cases (show u2=At f from ru2)
  rw[hks];exact zjP (I1.ok.hd hh) F hr hb turn hq hne hQ I2
end
end L2
namespace TS
open PySem PyProof.Rows
noncomputable def zcb:Bool->Keyed->Array Keyed->Nat->Nat->Nat->StateT AM Sem (Option Nat):=sortPriv% PySem.Builtin.gallop
noncomputable def zfw:Array Keyed->Array Keyed->StateT AM Sem (Array Keyed):=sortPriv% PySem.Builtin.mergeLo
noncomputable def zfx:Array Keyed->Array Keyed->StateT AM Sem (Array Keyed):=sortPriv% PySem.Builtin.mergeHi
structure LtOk (M:Model) (A:AQ) (E:Value->Ab->Prop) (s:Ab) (kd:Ct) (S:Keyed->Prop) (L:Keyed->Keyed->Bool):Prop where
 lt:∀x y,S x->S y->∀(st:AM) (Q:Option Bool->AM->Prop),kindOf st=kd->Q (some (L x y)) st->wpS M A E s (lt' x y) Q st
 tr:∀x y z,S x->S y->S z->L y x=false->L z y=false->L z x=false
 as:∀x y,S x->S y->L x y=true->L y x=false
section
variable {M:Model}{A:AQ}{E:Value->Ab->Prop}{s:Ab}{kd:Ct}{S:Keyed->Prop}{L:Keyed->Keyed->Bool}
theorem zax{arr:Array Keyed}{i:Nat}{x:Keyed}{st:AM}{Q:Keyed->AM->Prop}(h:arr[i]?=some x)(q:Q x st):wpS M A E s (elem' arr i) Q st:=by rw[elem'_eq,h];exact Ao q
theorem zbr (O : LtOk M A E s kd S L){left : Bool}{key : Keyed}{arr : Array Keyed}{base n hint : Nat}{b : Nat → Bool}{Q : Option Nat → AM → Prop}{st : AM}(hk : kindOf st = kd) (hS : S key)
    (hb:∀ i,i<n→∃ x,arr[base+i]?=some x∧S x∧(if left=true then L x key else !L key x)=b i) (mono:∀ i j,i≤j→j<n→b j=true→b i=true) (hh:hint<n)
    (hQ:∀ k,k≤n→(∀ i,i<k→b i=true)→(∀ i,k≤i→i<n→b i=false)→Q (some k) st):wpS M A E s (zcb left key arr base n hint) Q st:=by
  have bey : ∀ i, i < n → ∀ (Q' : Option Bool → AM → Prop), Q' (some (b i)) st → wpS M A E s ((λi => do
        let x ← elem' arr (base+i)
        if left=true then lt' x key
          else do
            let r ← lt' key x
            pure (Option.map (λx=>!x) r)) i) Q' st:=λi hi Q' q=>by
    obtain⟨x,e,sx,eb⟩:=hb i hi
    refine Ag (zax e ?_)
    cases left with
    | true =>
      rw[if_pos rfl] at eb ⊢
      exact O.lt x key sx hS st Q' hk (by rw[eb];exact q)
    | false =>
      rw[if_neg (by simp)] at eb ⊢
      refine Ag (O.lt key x hS sx st _ hk (Ao ?_))
      show Q' (some (!L key x)) st
      rw[eb];exact q
  refine Ag (bey hint hh _ ?_)
  dsimp only
  cases hbh:b hint with
  | true =>
    rw[if_pos rfl]
    refine Ag (Ca (Bo (I:=λx c st'=>st'=st∧∃ la of,c=(none,la,of)∧la<n - hint∧la<of∧x+1≤of∧b (hint+la)=true)
      (Q:=λc st'=>st'=st∧∃ la of,c=(none,la,of)∧la<n - hint∧la<of∧b (hint+la)=true∧(of<n - hint→b (hint+of)=false)) ?_ ?_ ⟨rfl,0,1,rfl,by lia,by lia,by lia,hbh⟩) ?_)
    . rintro x c st' _ hx ⟨rfl,la,of,rfl,g1,g2,g3,g4⟩
      dsimp only
      by_cases hge:of ≥ n - hint
      . rw[if_pos hge]
        exact Ao ⟨rfl,la,of,rfl,g1,g2,g4,λz=>absurd z (by lia)⟩
      . rw[if_neg hge]
        refine Ag (bey (hint+of) (by lia) _ ?_)
        dsimp only
        cases hbo:b (hint+of) with
        | true =>
          rw[if_neg (by simp)]
          exact Ao ⟨rfl,of,2*of+1,rfl,by lia,by lia,by lia,hbo⟩
        | false =>
          rw[if_pos (by simp)]
          exact Ao ⟨rfl,la,of,rfl,g1,g2,g4,λ_=>hbo⟩
    . rintro c st' ⟨rfl,la,of,rfl,g1,g2,g3,g4⟩
      exact⟨rfl,la,of,rfl,g1,g2,g4,λz=>absurd z (by simp at g3;lia)⟩
    . rintro c st' ⟨rfl,la,of,rfl,g1,g2,g3,g4⟩
      dsimp only
      have hlo:∀ i,i<hint+la+1→b i=true:=λi hi=>mono i (hint+la) (by lia) (by lia) g3
      have hhi:∀ i,hint+min of (n - hint)≤i→i<n→b i=false:=λi h1 h2=>by
        by_cases ho:of<n - hint
        . cases q:b i with
          | false=>rfl
          | true =>
            have:=mono (hint+of) i (by lia) h2 q
            rw[g4 ho] at this;cases this
        . exact absurd h2 (by lia)
      refine Ag (Ca (Bo (I:=λx c z=>z=st'∧∃ lo hi,c=(none,lo,hi)∧lo≤hi∧hi≤n∧(hi - lo)+x≤n∧(∀ i,i<lo→b i=true)∧∀ i,hi≤i→i<n→b i=false)
        (Q:=λc z=>z=st'∧∃ k,c=(none,k,k)∧k≤n∧(∀ i,i<k→b i=true)∧∀ i,k≤i→i<n→b i=false) ?_ ?_ ⟨rfl,hint+la+1,hint+min of (n - hint),rfl,by lia,by lia,by lia,hlo,hhi⟩) ?_)
      . rintro x c st'' _ hx ⟨rfl,lo,hi,rfl,g1,g2,g3,g4,g5⟩
        dsimp only
        by_cases hge:lo ≥ hi
        . rw[if_pos hge]
          have e:lo=hi:=by lia
          subst e
          exact Ao ⟨rfl,lo,rfl,g2,g4,g5⟩
        . rw[if_neg hge]
          have hm:lo+(hi - lo) / 2<n:=by lia
          refine Ag (bey _ hm _ ?_)
          dsimp only
          cases hbm:b (lo+(hi - lo) / 2) with
          | true =>
            rw[if_pos rfl]
            refine Ao ⟨rfl,_,_,rfl,by lia,g2,by lia,λi hi'=>?_,g5⟩
            exact mono i _ (by lia) hm hbm
          | false =>
            rw[if_neg (by simp)]
            refine Ao ⟨rfl,_,_,rfl,by lia,by lia,by lia,g4,λi hi1 hi2=>?_⟩
            cases q:b i with
            | false=>rfl
            | true=>rw[mono _ i hi1 hi2 q] at hbm;cases hbm
      . rintro c st'' ⟨rfl,lo,hi,rfl,g1,g2,g3,g4,g5⟩
        have e:lo=hi:=by simp at g3;lia
        subst e
        exact⟨rfl,lo,rfl,g2,g4,g5⟩
      . rintro c st'' ⟨rfl,k,rfl,g1,g2,g3⟩
        exact Ao (hQ k g1 g2 g3)
  | false =>
    rw[if_neg (by simp)]
    refine Ag (Ca (Bo (I:=λx c st'=>st'=st∧∃ la of,c=(none,la,of)∧la<hint+1∧la<of∧x+1≤of∧b (hint - la)=false)
      (Q:=λc st'=>st'=st∧∃ la of,c=(none,la,of)∧la<hint+1∧la<of∧b (hint - la)=false∧(of<hint+1→b (hint - of)=true)) ?_ ?_ ⟨rfl,0,1,rfl,by lia,by lia,by lia,hbh⟩) ?_)
    . rintro x c st' _ hx ⟨rfl,la,of,rfl,g1,g2,g3,g4⟩
      dsimp only
      by_cases hge:of ≥ hint+1
      . rw[if_pos hge]
        exact Ao ⟨rfl,la,of,rfl,g1,g2,g4,λz=>absurd z (by lia)⟩
      . rw[if_neg hge]
        refine Ag (bey (hint - of) (by lia) _ ?_)
        dsimp only
        cases hbo:b (hint - of) with
        | true =>
          rw[if_pos rfl]
          exact Ao ⟨rfl,la,of,rfl,g1,g2,g4,λ_=>hbo⟩
        | false =>
          rw[if_neg (by simp)]
          exact Ao ⟨rfl,of,2*of+1,rfl,by lia,by lia,by lia,hbo⟩
    . rintro c st' ⟨rfl,la,of,rfl,g1,g2,g3,g4⟩
      exact⟨rfl,la,of,rfl,g1,g2,g4,λz=>absurd z (by simp at g3;lia)⟩
    . rintro c st' ⟨rfl,la,of,rfl,g1,g2,g3,g4⟩
      dsimp only
      have hlo:∀ i,i<hint+1 - min of (hint+1)→b i=true:=λi hi=>by
        by_cases ho:of<hint+1
        . exact mono i (hint - of) (by lia) (by lia) (g4 ho)
        . exact absurd hi (by lia)
      have hhi:∀ i,hint - la≤i→i<n→b i=false:=λi h1 h2=>by
        cases q:b i with
        | false=>rfl
        | true =>
          have:=mono (hint - la) i (by lia) h2 q
          rw[g3] at this;cases this
      refine Ag (Ca (Bo (I:=λx c z=>z=st'∧∃ lo hi,c=(none,lo,hi)∧lo≤hi∧hi≤n∧(hi - lo)+x≤n∧(∀ i,i<lo→b i=true)∧∀ i,hi≤i→i<n→b i=false)
        (Q:=λc z=>z=st'∧∃ k,c=(none,k,k)∧k≤n∧(∀ i,i<k→b i=true)∧∀ i,k≤i→i<n→b i=false) ?_ ?_ ⟨rfl,hint+1 - min of (hint+1),hint - la,rfl,by lia,by lia,by lia,hlo,hhi⟩) ?_)
      . rintro x c st'' _ hx ⟨rfl,lo,hi,rfl,g1,g2,g3,g4,g5⟩
        dsimp only
        by_cases hge:lo ≥ hi
        . rw[if_pos hge]
          have e:lo=hi:=by lia
          subst e
          exact Ao ⟨rfl,lo,rfl,g2,g4,g5⟩
        . rw[if_neg hge]
          have hm:lo+(hi - lo) / 2<n:=by lia
          refine Ag (bey _ hm _ ?_)
          dsimp only
          cases hbm:b (lo+(hi - lo) / 2) with
          | true =>
            rw[if_pos rfl]
            refine Ao ⟨rfl,_,_,rfl,by lia,g2,by lia,λi hi'=>?_,g5⟩
            exact mono i _ (by lia) hm hbm
          | false =>
            rw[if_neg (by simp)]
            refine Ao ⟨rfl,_,_,rfl,by lia,by lia,by lia,g4,λi hi1 hi2=>?_⟩
            cases q:b i with
            | false=>rfl
            | true=>rw[mono _ i hi1 hi2 q] at hbm;cases hbm
      . rintro c st'' ⟨rfl,lo,hi,rfl,g1,g2,g3,g4,g5⟩
        have e:lo=hi:=by simp at g3;lia
        subst e
        exact⟨rfl,lo,rfl,g2,g4,g5⟩
      . rintro c st'' ⟨rfl,k,rfl,g1,g2,g3⟩
        exact Ao (hQ k g1 g2 g3)
end
end TS
namespace TS
section
variable {α:Type}{le:α->α->Prop}
structure MI (le:α->α->Prop) (a b out:List α) (ia ib:Nat):Prop where
 ha:ia<=a.length
 hb:ib<=b.length
 perm:(out++a.drop ia++b.drop ib).Perm (a++b)
 sorted:out.Pairwise le
 lea:∀x∈out,∀y∈a.drop ia,le x y
 leb:∀x∈out,∀y∈b.drop ib,le x y
theorem zcx(a:List α)(i k:Nat):a.drop i=(a.drop i).take k++a.drop (i+k):=by rw[<- List.drop_drop,BJ]
theorem MI.takeA{a b out:List α}{ia ib:Nat}(m:MI le a b out ia ib)(sa:a.Pairwise le)(k:Nat)(hk:ia + k <= a.length)(h:∀x ∈ (a.drop ia).take k, ∀y ∈ b.drop ib, le x y) :
  MI le a b (out++(a.drop ia).take k) (ia+k) ib:=by
 have e:=zcx a ia k;have sd:((a.drop ia).take k++a.drop (ia+k)).Pairwise le:=by rw[<- e];exact sa.sublist (Ci _ _)
 obtain⟨s1,s2,s3⟩:=AV.mp sd;refine⟨hk,m.hb,?_,AV.mpr ⟨m.sorted,s1,λx hx y hy=>m.lea x hx y ?_⟩,λx hx y hy=>?_,λx hx y hy=>?_⟩
 .have:=m.perm;rw[e]at this;simpa[AC]using this
 .rw[e];exact Bg _ hy
 .rcases Aj.mp hx with q |q
  .exact m.lea x q y (by rw[e];exact Ak _ hy)
  .exact s3 x q y hy
 .rcases Aj.mp hx with q |q
  .exact m.leb x q y hy
  .exact h x q y hy
theorem MI.takeB{a b out:List α}{ia ib:Nat}(m:MI le a b out ia ib)(sb:b.Pairwise le)(k:Nat)(hk:ib + k <= b.length)(h:∀x ∈ (b.drop ib).take k, ∀y ∈ a.drop ia, le x y) :
  MI le a b (out++(b.drop ib).take k) ia (ib+k):=by
 have e:=zcx b ib k;have sd:((b.drop ib).take k++b.drop (ib+k)).Pairwise le:=by rw[<- e];exact sb.sublist (Ci _ _)
 obtain⟨s1,s2,s3⟩:=AV.mp sd;refine⟨m.ha,hk,?_,AV.mpr ⟨m.sorted,s1,λx hx y hy=>m.leb x hx y ?_⟩,λx hx y hy=>?_,λx hx y hy=>?_⟩
 .have:=m.perm;rw[e]at this;refine List.Perm.trans ?_ this;rw[AC,AC,AC,<- AC ((b.drop ib).take k),<- AC (a.drop ia)];exact List.Perm.append_left _ (List.Perm.append_right _ Cy)
 .rw[e];exact Bg _ hy
 .rcases Aj.mp hx with q |q
  .exact m.lea x q y hy
  .exact h x q y hy
 .rcases Aj.mp hx with q |q
  .exact m.leb x q y (by rw[e];exact Ak _ hy)
  .exact s3 x q y hy
noncomputable def Res(le:α->α->Prop)(a b r:List α):Prop:=r.Perm (a++b)/\r.Pairwise le
theorem MI.done{a b out:List α}{ia ib:Nat}(m:MI le a b out ia ib)(sa:a.Pairwise le)(h:b.length<=ib):Res le a b (out++a.drop ia++b.drop ib):=by refine⟨m.perm,?_⟩;rw[CZ h,AH];exact AV.mpr ⟨m.sorted,sa.sublist (Ci _ _),m.lea⟩
theorem MI.lastA{a b out:List α}{ia ib:Nat}(m:MI le a b out ia ib)(sa:a.Pairwise le)(sb:b.Pairwise le)(h:∀x∈b.drop ib,∀y∈a.drop ia,le x y):Res le a b (out++b.drop ib++a.drop ia):=by
 refine⟨?_,?_⟩
 .refine List.Perm.trans ?_ m.perm;rw[AC,AC];exact List.Perm.append_left _ Cy
 .refine AV.mpr ⟨AV.mpr ⟨m.sorted,sb.sublist (Ci _ _),m.leb⟩,sa.sublist (Ci _ _),λx hx y hy=>?_⟩;rcases Aj.mp hx with q |q
  .exact m.lea x q y hy
  .exact h x q y hy
theorem MI.start{a b:List α}{y:α}(sb:b.Pairwise le)(h0:b[0]?=some y)(h:∀x∈a,le y x):MI le a b [y] 0 1:=by
 cases b with
 |nil=>cases h0
 |cons z r =>
  cases h0
  obtain⟨s1,s2⟩:=DE.mp sb;refine⟨Be _,by simp,?_,by simp,λx hx w hw=>?_,λx hx w hw=>?_⟩
  .show ([y]++a++r).Perm (a++y::r);exact List.perm_middle.symm
  .rw[Ah.mp hx];exact h w hw
  .rw[Ah.mp hx];exact s1 w hw
end
end TS
namespace TS
open PySem PyProof.Rows
noncomputable def Like(st st':AM):Prop:=kindOf st'=kindOf st/\Aq st'=Aq st/\AO st'=AO st/\Cg st'=Cg st
theorem Like.refl(st:AM):Like st st:=⟨rfl,rfl,rfl,rfl⟩
noncomputable abbrev leOf(L:Keyed->Keyed->Bool):Keyed->Keyed->Prop:=λx y=>L y x=false
section
variable {M:Model}{A:AQ}{E:Value->Ab->Prop}{s:Ab}{kd:Ct}{S:Keyed->Prop}{L:Keyed->Keyed->Bool}
theorem LtOk.rf(O:LtOk M A E s kd S L){x:Keyed}(h:S x):L x x=false:=by
 cases q:L x x with
 |false=>rfl
 |true=>rw[O.as x x h h q]at q;cases q
structure Two (S:Keyed->Prop) (L:Keyed->Keyed->Bool) (a b:Array Keyed):Prop where
 sa:a.toList.Pairwise (leOf L)
 sb:b.toList.Pairwise (leOf L)
 Sa:∀x∈a.toList,S x
 Sb:∀x∈b.toList,S x
theorem zaq{a:Array Keyed}{i:Nat}{x:Keyed}(h:a[i]?=some x):x∈a.toList:=by
 have:a.toList[i]?=some x:=by simpa using h
 exact As this
theorem zbW{a:Array Keyed}{i:Nat}{x:Keyed}(h:a[i]?=some x):a.toList.drop i=x::a.toList.drop (i+1):=by
 have hl:i<a.toList.length:=by have:=(Bm.mp h).1;simpa using this
 rw[List.drop_eq_getElem_cons hl]
 congr 1
 have:=(Bm.mp h).2;simpa using this
theorem zcp{a:Array Keyed}(O:LtOk M A E s kd S L)(sa:a.toList.Pairwise (leOf L))(Sa:∀x∈a.toList,S x){i:Nat}{x y:Keyed}(h:a[i]?=some x)(hy:y∈a.toList.drop i):leOf L x y:=by
 rw[zbW h]at hy;rcases Av.mp hy with e |q
 .rw[e];exact O.rf (Sa x (zaq h))
 .have:=sa.sublist (Ci i _);rw[zbW h]at this;exact (DE.mp this).1 y q
variable {a b:Array Keyed}{out:Array Keyed}{ia ib:Nat}
theorem one_B(O:LtOk M A E s kd S L)(T:Two S L a b)(m:MI (leOf L) a.toList b.toList out.toList ia ib){x y:Keyed}(hb:b[ib]? = some x)(ha:a[ia]? = some y)(h:L x y=true) :
  MI (leOf L) a.toList b.toList (out.push x).toList ia (ib+1):=by
 have e:(b.toList.drop ib).take 1=[x]:=by rw[zbW hb];rfl
 have hl:ib+1<=b.toList.length:=by have:=(Bm.mp hb).1;rw[AG];exact this
 have:=m.takeB T.sb 1 hl λz hz w hw=>by rw[e]at hz;rw[Ah.mp hz];have h1:leOf L x y:=O.as x y (T.Sb x (zaq hb)) (T.Sa y (zaq ha)) h;exact O.tr x y w (T.Sb x (zaq hb)) (T.Sa y (zaq ha)) (T.Sa w (BA hw)) h1 (zcp O T.sa T.Sa ha hw)
 rw[e]at this;rw[CH];exact this
theorem one_A(O:LtOk M A E s kd S L)(T:Two S L a b)(m:MI (leOf L) a.toList b.toList out.toList ia ib){x y:Keyed}(hb:b[ib]? = some x)(ha:a[ia]? = some y)(h:L x y=false) :
  MI (leOf L) a.toList b.toList (out.push y).toList (ia+1) ib:=by
 have e:(a.toList.drop ia).take 1=[y]:=by rw[zbW ha];rfl
 have hl:ia+1<=a.toList.length:=by have:=(Bm.mp ha).1;rw[AG];exact this
 have:=m.takeA T.sa 1 hl λz hz w hw=>by rw[e]at hz;rw[Ah.mp hz];exact O.tr y x w (T.Sa y (zaq ha)) (T.Sb x (zaq hb)) (T.Sb w (BA hw)) h (zcp O T.sb T.Sb hb hw)
 rw[e]at this;rw[CH];exact this
theorem zct(a:Array Keyed)(i k:Nat):(a.extract i (i+k)).toList=(a.toList.drop i).take k:=by rw[CI,B9,Nat.add_sub_cancel_left]
theorem zfy{a:Array Keyed}{i k:Nat}{x:Keyed}(h:x∈(a.toList.drop i).take k):∃j,j<k/\a[i+j]?=some x:=by
 obtain⟨j,hj,e⟩:=AR h
 have hk:j<k:=by have:=hj;rw[AX]at this;lia
 refine⟨j,hk,?_⟩;have h1:((a.toList.drop i).take k)[j]?=some x:=by rw[Aa hj,e]
 rw[List.getElem?_take_of_lt hk,C0]at h1;simpa using h1
theorem blk_A(O:LtOk M A E s kd S L)(T:Two S L a b)(m:MI (leOf L) a.toList b.toList out.toList ia ib){x:Keyed}(hb:b[ib]? = some x)(k:Nat)(hk:ia + k <= a.size)(h:∀j y, j < k -> a[ia + j]? = some y -> L x y=false) :
  MI (leOf L) a.toList b.toList (out++a.extract ia (ia+k)).toList (ia+k) ib:=by
 rw[Bb,zct];refine m.takeA T.sa k (by rw[AG];exact hk) λz hz w hw=>?_
 obtain⟨j,hj,e⟩:=zfy hz;exact O.tr z x w (T.Sa z (zaq e)) (T.Sb x (zaq hb)) (T.Sb w (BA hw)) (h j z hj e) (zcp O T.sb T.Sb hb hw)
theorem blk_B(O:LtOk M A E s kd S L)(T:Two S L a b)(m:MI (leOf L) a.toList b.toList out.toList ia ib){y:Keyed}(ha:a[ia]? = some y)(k:Nat)(hk:ib + k <= b.size)(h:∀j x, j < k -> b[ib + j]? = some x -> L x y=true) :
  MI (leOf L) a.toList b.toList (out++b.extract ib (ib+k)).toList ia (ib+k):=by
 rw[Bb,zct];refine m.takeB T.sb k (by rw[AG];exact hk) λz hz w hw=>?_
 obtain⟨j,hj,e⟩:=zfy hz;exact O.tr z y w (T.Sb z (zaq e)) (T.Sa y (zaq ha)) (T.Sa w (BA hw)) (O.as z y (T.Sb z (zaq e)) (T.Sa y (zaq ha)) (h j z hj e)) (zcp O T.sa T.Sa ha hw)
theorem zl0(O:LtOk M A E s kd S L)(T:Two S L a b){st:AM}(hk:kindOf st=kd){x:Keyed}(Sx:S x)(hi:ia < a.size){Q:Option Nat -> AM -> Prop}
  (hQ:∀k,ia+k<=a.size->(∀j y,j<k->a[ia+j]?=some y->L x y=false)->(∀j y,k<=j->a[ia+j]?=some y->L x y=true)->Q (some k) st) {hint:Nat} (hh:hint<a.size-ia) :
  wpS M A E s (zcb false x a ia (a.size-ia) hint) Q st:=by
 have at_:∀i,i<a.size-ia->∃y,a[ia+i]?=some y:=λi h=>⟨a[ia+i],by simp[show ia+i<a.size by lia]⟩
 refine zbr (b:=λi=>!(a[ia+i]?.elim false λy=>L x y)) O hk Sx (λi h=>?_) (λi j hij hj q=>?_) hh λk h1 h2 h3=>?_
 .obtain⟨y,e⟩:=at_ i h;exact⟨y,e,T.Sa y (zaq e),by rw[if_neg (by simp),e];rfl⟩
 .obtain⟨y,e⟩:=at_ j hj;obtain⟨z,e2⟩:=at_ i (by lia);rw[e]at q;rw[e2];have q1:L x y=false:=by simpa using q
  have le1:leOf L z y:=zcp O T.sa T.Sa e2 (by
   have:y∈(a.toList.drop (ia+i)).drop (j-i):=by rw[List.drop_drop,show ia+i+(j-i)=ia+j by lia,zbW e];exact AE
   exact BA this)
  have:L x z=false:=O.tr z y x (T.Sa z (zaq e2)) (T.Sa y (zaq e)) Sx le1 q1;simpa using this
 .refine hQ k (by lia) (λj y hj e=>?_) (λj y hj e=>?_)
  .have:=h2 j hj;rw[e]at this;simpa using this
  .have hlt:j < a.size-ia := by have:=(Bm.mp e).1;lia
   have:=h3 j hj hlt;rw[e]at this;simpa using this
theorem zlZ(O:LtOk M A E s kd S L)(T:Two S L a b){st:AM}(hk:kindOf st=kd){y:Keyed}(Sy:S y)(hi:ib < b.size){Q:Option Nat -> AM -> Prop}
  (hQ:∀k,ib+k<=b.size->(∀j x,j<k->b[ib+j]?=some x->L x y=true)->(∀j x,k<=j->b[ib+j]?=some x->L x y=false)->Q (some k) st) {hint:Nat} (hh:hint<b.size-ib) :
  wpS M A E s (zcb true y b ib (b.size-ib) hint) Q st:=by
 have at_:∀i,i<b.size-ib->∃x,b[ib+i]?=some x:=λi h=>⟨b[ib+i],by simp[show ib+i<b.size by lia]⟩
 refine zbr (b:=λi=>b[ib+i]?.elim false λx=>L x y) O hk Sy (λi h=>?_) (λi j hij hj q=>?_) hh λk h1 h2 h3=>?_
 .obtain⟨x,e⟩:=at_ i h;exact⟨x,e,T.Sb x (zaq e),by rw[if_pos rfl,e];rfl⟩
 .obtain⟨x,e⟩:=at_ j hj;obtain⟨z,e2⟩:=at_ i (by lia);rw[e]at q;rw[e2];have q1:L x y=true:=q;show L z y=true
  have le1:leOf L z x:=zcp O T.sb T.Sb e2 (by
   have:x∈(b.toList.drop (ib+i)).drop (j-i):=by rw[List.drop_drop,show ib+i+(j-i)=ib+j by lia,zbW e];exact AE
   exact BA this)
  cases w:L z y with
  |true=>rfl
  |false =>
   have:L x y=false:=O.tr y z x Sy (T.Sb z (zaq e2)) (T.Sb x (zaq e)) w le1;rw[this]at q1;cases q1
 .refine hQ k (by lia) (λj x hj e=>?_) (λj x hj e=>?_)
  .have:=h2 j hj;rw[e]at this;exact this
  .have hlt:j < b.size-ib := by have:=(Bm.mp e).1;lia
   have:=h3 j hj hlt;rw[e]at this;exact this
end
end TS
set_option maxHeartbeats 8000000
namespace TS
open PySem PyProof.Rows
section
variable {M:Model}{A:AQ}{E:Value->Ab->Prop}{s:Ab}{kd:Ct}{S:Keyed->Prop}{L:Keyed->Keyed->Bool}{a b out:Array Keyed}{ia ib:Nat}
theorem zbo(a:Array Keyed)(i:Nat):(a.extract i a.size).toList=a.toList.drop i:=by rw[CI,B9,Ba (by simp)]
theorem zdH(T:Two S L a b)(m:MI (leOf L) a.toList b.toList out.toList ia ib)(h:b.size<=ib):Res (leOf L) a.toList b.toList (out++a.extract ia a.size++b.extract ib b.size).toList:=by rw[Bb,Bb,zbo,zbo];exact m.done T.sa (by rw[AG];exact h)
theorem zjF(T:Two S L a b)(m:MI (leOf L) a.toList b.toList out.toList ia ib)(h:a.size<=ia):Res (leOf L) a.toList b.toList (out++a.extract ia a.size++b.extract ib b.size).toList:=by rw[Bb,Bb,zbo,zbo];have e:a.toList.drop ia=[]:=CZ (by rw[AG];exact h);refine⟨m.perm,?_⟩;rw[e,AH];exact AV.mpr ⟨m.sorted,T.sb.sublist (Ci _ _),m.leb⟩
theorem zdG(T:Two S L a b)(hl:∀z,a[a.size-1]?=some z->∀x∈b.toList,leOf L x z)(m:MI (leOf L) a.toList b.toList out.toList ia ib)(h:ia+1=a.size):Res (leOf L) a.toList b.toList (out++b.extract ib b.size++a.extract ia a.size).toList:=by
 rw[Bb,Bb,zbo,zbo];have hlt:ia<a.size:=by lia
 have e:a[ia]?=some a[ia]:=by simp[hlt]
 refine m.lastA T.sa T.sb λx hx y hy=>?_
 rw[zbW e,CZ (by rw[AG];lia)]at hy;rw[Ah.mp hy];exact hl _ (by rw[show a.size-1=ia by lia];exact e) x (BA hx)
theorem Like.tr{x y z:AM}(h:Like x y)(k:Like y z):Like x z:=⟨k.1.trans h.1,k.2.1.trans h.2.1,k.2.2.1.trans h.2.2.1,k.2.2.2.trans h.2.2.2⟩
noncomputable def zeP:Nat->StateT AM Sem Unit:=sortPriv% PySem.Builtin.setMinGallop
noncomputable abbrev LH:=Option (Array Keyed)×Array Keyed×Nat×Nat×Nat×Nat×Nat
noncomputable def loC(a b out:Array Keyed)(ia ib mg ac bc:Nat):StateT AM Sem (ForInStep LH) :=
 elem' a ia >>= λx =>
  if (ia+1+1 == a.size)=true then pure (.done (some (out.push x++b.extract ib b.size++a.extract (ia+1) a.size),out.push x,ia+1,ib,mg,ac,bc))
  else if (decide (ac<7) && decide (bc<7))=true then pure (.done (none,out.push x,ia+1,ib,mg,ac,bc))
  else pure (.yield (none,out.push x,ia+1,ib,mg,ac,bc))
noncomputable def loB(a b out:Array Keyed)(ia ib mg ac bc:Nat):StateT AM Sem (ForInStep LH) :=
 elem' b ib >>= λx =>
  if (ib+1 == b.size)=true then pure (.done (some (out.push x++a.extract ia a.size++b.extract (ib+1) b.size),out.push x,ia,ib+1,mg,ac,bc))
  else elem' a ia >>= λy=>zcb true y b (ib+1) (b.size-(ib+1)) 0 >>= λw =>
   match w with
   |some k =>
    if k > 0 then
     if (ib+1+k == b.size)=true then pure (.done (some (out.push x++b.extract (ib+1) (ib+1+k)++a.extract ia a.size++b.extract (ib+1+k) b.size),out.push x++b.extract (ib+1) (ib+1+k),ia,ib+1+k,mg,ac,k))
     else loC a b (out.push x++b.extract (ib+1) (ib+1+k)) ia (ib+1+k) mg ac k
    else loC a b (out.push x) ia (ib+1) mg ac k
   |_=>pure (.done (some (out.push x++a.extract ia a.size++b.extract (ib+1) b.size),out.push x,ia,ib+1,mg,ac,bc))
noncomputable def loA(a b out:Array Keyed)(ia ib mg ac bc:Nat):StateT AM Sem (ForInStep LH) :=
 elem' b ib >>= λx=>zcb false x a ia (a.size-ia) 0 >>= λw =>
  match w with
  |some k =>
   if k > 0 then
    if (ia+k+1 == a.size)=true then pure (.done (some (out++a.extract ia (ia+k)++b.extract ib b.size++a.extract (ia+k) a.size),out++a.extract ia (ia+k),ia+k,ib,mg,k,bc))
    else if (ia+k == a.size)=true then pure (.done (some (out++a.extract ia (ia+k)++a.extract (ia+k) a.size++b.extract ib b.size),out++a.extract ia (ia+k),ia+k,ib,mg,k,bc))
    else loB a b (out++a.extract ia (ia+k)) (ia+k) ib mg k bc
   else loB a b out ia ib mg k bc
  |_=>pure (.done (some (out++a.extract ia a.size++b.extract ib b.size),out,ia,ib,mg,ac,bc))
noncomputable def loG(a b:Array Keyed)(c:LH):StateT AM Sem (ForInStep LH) :=
 if c.2.2.2.2.1 > 1 then zeP (c.2.2.2.2.1-1) >>= λ_=>loA a b c.2.1 c.2.2.1 c.2.2.2.1 (c.2.2.2.2.1-1) c.2.2.2.2.2.1 c.2.2.2.2.2.2
 else zeP c.2.2.2.2.1 >>= λ_=>loA a b c.2.1 c.2.2.1 c.2.2.2.1 c.2.2.2.2.1 c.2.2.2.2.2.1 c.2.2.2.2.2.2
noncomputable abbrev LI:=Option (Array Keyed)×Array Keyed×Nat×Nat×Nat×Nat
noncomputable def loI(a b:Array Keyed)(mg:Nat)(c:LI):StateT AM Sem (ForInStep LI) :=
 elem' b c.2.2.2.1 >>= λx=>elem' a c.2.2.1 >>= λy=>lt' x y >>= λw =>
  match w with
  |some v =>
   if v=true then elem' b c.2.2.2.1 >>= λx =>
    if (c.2.2.2.1+1 == b.size)=true then pure (.done (some (c.2.1.push x++a.extract c.2.2.1 a.size++b.extract (c.2.2.2.1+1) b.size),c.2.1.push x,c.2.2.1,c.2.2.2.1+1,0,c.2.2.2.2.2+1))
    else if c.2.2.2.2.2+1 ≥ mg then pure (.done (none,c.2.1.push x,c.2.2.1,c.2.2.2.1+1,0,c.2.2.2.2.2+1))
    else pure (.yield (none,c.2.1.push x,c.2.2.1,c.2.2.2.1+1,0,c.2.2.2.2.2+1))
   else elem' a c.2.2.1 >>= λy =>
    if (c.2.2.1+1+1 == a.size)=true then pure (.done (some (c.2.1.push y++b.extract c.2.2.2.1 b.size++a.extract (c.2.2.1+1) a.size),c.2.1.push y,c.2.2.1+1,c.2.2.2.1,c.2.2.2.2.1+1,0))
    else if c.2.2.2.2.1+1 ≥ mg then pure (.done (none,c.2.1.push y,c.2.2.1+1,c.2.2.2.1,c.2.2.2.2.1+1,0))
    else pure (.yield (none,c.2.1.push y,c.2.2.1+1,c.2.2.2.1,c.2.2.2.2.1+1,0))
  |_=>pure (.done (some (c.2.1++a.extract c.2.2.1 a.size++b.extract c.2.2.2.1 b.size),c.2.1,c.2.2.1,c.2.2.2.1,c.2.2.2.2.1,c.2.2.2.2.2))
noncomputable abbrev LO:=Option (Array Keyed)×Array Keyed×Nat×Nat×Nat
noncomputable def loP(a b:Array Keyed)(mg:Nat)(c:LI):StateT AM Sem (ForInStep LO) :=
 Cu (λ_=>StateT AM Sem (ForInStep LO)) c.1 (λr=>pure (.done (some r,c.2.1,c.2.2.1,c.2.2.2.1,mg))) λ_=>(liftM (rule "list.sort.gallop"):StateT AM Sem Unit) >>= λ_=>forIn [:a.size+b.size] ((none,c.2.1,c.2.2.1,c.2.2.2.1,mg+1,c.2.2.2.2.1,c.2.2.2.2.2):LH) (λ_ c=>loG a b c) >>= λc =>
  Cu (λ_=>StateT AM Sem (ForInStep LO)) c.1 (λr=>pure (.done (some r,c.2.1,c.2.2.1,c.2.2.2.1,c.2.2.2.2.1))) λ_=>zeP (c.2.2.2.2.1+1) >>= λ_=>pure (.yield (none,c.2.1,c.2.2.1,c.2.2.2.1,c.2.2.2.2.1+1))
noncomputable def loO(a b:Array Keyed)(c:LO):StateT AM Sem (ForInStep LO) :=
 forIn [:a.size+b.size] ((none,c.2.1,c.2.2.1,c.2.2.2.1,0,0):LI) (λ_ d=>loI a b c.2.2.2.2 d) >>= λd=>loP a b c.2.2.2.2 d
noncomputable def zkd(a b:Array Keyed):StateT AM Sem (Array Keyed) :=
 (liftM (rule "list.sort.merge-lo"):StateT AM Sem Unit) >>= λ_=>elem' b 0 >>= λx =>
  if (1 == b.size)=true then pure (#[x]++a.extract 0 a.size++b.extract 1 b.size)
  else if (0+1 == a.size)=true then pure (#[x]++b.extract 1 b.size++a.extract 0 a.size)
  else get >>= λs=>forIn [:a.size+b.size] ((none,#[x],0,1,gallopOf s):LO) (λ_ c=>loO a b c) >>= λc =>
   Cu (λ_=>StateT AM Sem (Array Keyed)) c.1 (λr=>pure r) λ_=>unsupported "internal:list.sort.merge-bound"
theorem zii(a b:Array Keyed):zfw a b=zkd a b:=rfl
variable {Q:ForInStep LH->AM->Prop}{z:AM}{N mg ac bc:Nat}{x y:Keyed}
theorem zhJ(O:LtOk M A E s kd S L)(T:Two S L a b)(hl:∀z, a[a.size-1]? = some z -> ∀x ∈ b.toList, leOf L x z)(hD:∀r out ia ib mg ac bc, Res (leOf L) a.toList b.toList r.toList -> Q (.done (some r, out, ia, ib, mg, ac, bc)) z)
  (hN:∀out ia ib mg ac bc,MI (leOf L) a.toList b.toList out.toList ia ib->ia+1<a.size->ib<b.size->N<=ia+ib->Q (.done (none,out,ia,ib,mg,ac,bc)) z/\Q (.yield (none,out,ia,ib,mg,ac,bc)) z)
  (m:MI (leOf L) a.toList b.toList out.toList ia ib) (ea:a[ia]?=some y) (eb:b[ib]?=some x) (hw:L x y=false) (g1:ia+1<a.size) (g2:ib<b.size) (g3:N<=ia+ib) :
  wpS M A E s (loC a b out ia ib mg ac bc) Q z:=by
 have n4:=one_A O T m eb ea hw;refine Ag (zax ea ?_)
 by_cases e:ia+1+1=a.size
 .rw[if_pos (by simp[e])];exact Ao (hD _ _ _ _ _ _ _ (zdG T hl n4 (by lia)))
 rw[if_neg (by simp[e])];have h:=hN _ _ _ mg ac bc n4 (by lia) g2 (by lia);split
 .exact Ao h.1
 .exact Ao h.2
theorem zhK(O:LtOk M A E s kd S L)(T:Two S L a b)(hk:kindOf z=kd)(hl:∀z, a[a.size-1]? = some z -> ∀x ∈ b.toList, leOf L x z)(hD:∀r out ia ib mg ac bc, Res (leOf L) a.toList b.toList r.toList -> Q (.done (some r, out, ia, ib, mg, ac, bc)) z)
  (hN:∀out ia ib mg ac bc,MI (leOf L) a.toList b.toList out.toList ia ib->ia+1<a.size->ib<b.size->N<=ia+ib->Q (.done (none,out,ia,ib,mg,ac,bc)) z/\Q (.yield (none,out,ia,ib,mg,ac,bc)) z)
  (m:MI (leOf L) a.toList b.toList out.toList ia ib) (ea:a[ia]?=some y) (eb:b[ib]?=some x) (hw:L x y=true) (g1:ia+1<a.size) (g2:ib<b.size) (g3:N<=ia+ib) :
  wpS M A E s (loB a b out ia ib mg ac bc) Q z:=by
 have n2:=one_B O T m eb ea hw;refine Ag (zax eb ?_)
 by_cases e3:ib+1=b.size
 .rw[if_pos (by simp[e3])];exact Ao (hD _ _ _ _ _ _ _ (zdH T n2 (by lia)))
 rw[if_neg (by simp[e3])];refine Ag (zax ea ?_);refine Ag (zlZ O T hk (T.Sa _ (zaq ea)) (by lia) (λk r1 r2 r3=>?_) (by lia));dsimp only
 by_cases hk1:k > 0
 .rw[if_pos hk1];have n3:=blk_B O T n2 ea k r1 r2
  by_cases e4:ib+1+k=b.size
  .rw[if_pos (by simp[e4])];exact Ao (hD _ _ _ _ _ _ _ (zdH T n3 (by lia)))
  rw[if_neg (by simp[e4])];have hb:ib+1+k<b.size:=by lia
  exact zhJ O T hl hD hN n3 ea (by simp[hb]) (r3 k b[ib+1+k] (Ai _) (by simp[hb])) g1 hb (by lia)
 rw[if_neg hk1];have hb:ib+1<b.size:=by lia
 have kz:k=0:=by lia
 subst kz;exact zhJ O T hl hD hN n2 ea (by simp[hb]) (r3 0 b[ib+1] (Ai _) (by simp[hb])) g1 hb (by lia)
theorem zkj(O:LtOk M A E s kd S L)(T:Two S L a b)(hk:kindOf z=kd)(hl:∀z, a[a.size-1]? = some z -> ∀x ∈ b.toList, leOf L x z)(hD:∀r out ia ib mg ac bc, Res (leOf L) a.toList b.toList r.toList -> Q (.done (some r, out, ia, ib, mg, ac, bc)) z)
  (hN:∀out ia ib mg ac bc,MI (leOf L) a.toList b.toList out.toList ia ib->ia+1<a.size->ib<b.size->N<=ia+ib->Q (.done (none,out,ia,ib,mg,ac,bc)) z/\Q (.yield (none,out,ia,ib,mg,ac,bc)) z)
  (m:MI (leOf L) a.toList b.toList out.toList ia ib) (g1:ia+1<a.size) (g2:ib<b.size) (g3:N<=ia+ib) :
  wpS M A E s (loA a b out ia ib mg ac bc) Q z:=by
 have eb:b[ib]?=some b[ib]:=by simp[g2]
 refine Ag (zax eb ?_);refine Ag (zl0 O T hk (T.Sb _ (zaq eb)) (by lia) (λk q1 q2 q3=>?_) (by lia));dsimp only
 by_cases hk0:k > 0
 .rw[if_pos hk0];have n1:=blk_A O T m eb k q1 q2
  by_cases e1:ia+k+1=a.size
  .rw[if_pos (by simp[e1])];exact Ao (hD _ _ _ _ _ _ _ (zdG T hl n1 e1))
  rw[if_neg (by simp[e1])]
  by_cases e2:ia+k=a.size
  .rw[if_pos (by simp[e2])];exact Ao (hD _ _ _ _ _ _ _ (zjF T n1 (by lia)))
  rw[if_neg (by simp[e2])];have ha:ia+k<a.size:=by lia
  exact zhK O T hk hl hD hN n1 (by simp[ha]) eb (q3 k a[ia+k] (Ai _) (by simp[ha])) (by lia) g2 (by lia)
 rw[if_neg hk0];have ha:ia<a.size:=by lia
 have kz:k=0:=by lia
 subst kz;exact zhK O T hk hl hD hN m (by simp[ha]) eb (q3 0 a[ia] (Ai _) (by simp[ha])) g1 g2 g3
theorem zkh{Q:ForInStep LI -> AM -> Prop}(O:LtOk M A E s kd S L)(T:Two S L a b)(hk:kindOf z=kd)(hl:∀z, a[a.size-1]? = some z -> ∀x ∈ b.toList, leOf L x z)(m:MI (leOf L) a.toList b.toList out.toList ia ib)(g1:ia + 1 < a.size)(g2:ib < b.size)
  (hD:∀r out ia ib ac bc,Res (leOf L) a.toList b.toList r.toList->Q (.done (some r,out,ia,ib,ac,bc)) z)
  (hN:∀out ia' ib' ac bc,MI (leOf L) a.toList b.toList out.toList ia' ib'->ia'+1<a.size->ib'<b.size->ia+ib+1<=ia'+ib'->Q (.done (none,out,ia',ib',ac,bc)) z/\Q (.yield (none,out,ia',ib',ac,bc)) z) :
  wpS M A E s (loI a b mg (none,out,ia,ib,ac,bc)) Q z:=by
 obtain⟨xb,eb⟩:∃x,b[ib]?=some x:=⟨b[ib]'(by lia),by simp[g2]⟩;obtain⟨xa,ea⟩:∃x,a[ia]?=some x:=⟨a[ia]'(by lia),by simp[show ia<a.size by lia]⟩;refine Ag (zax eb (Ag (zax ea (Ag (O.lt xb xa (T.Sb _ (zaq eb)) (T.Sa _ (zaq ea)) _ _ hk ?_)))));dsimp only
 cases hw:L xb xa with
 |true =>
  rw[if_pos rfl];have m2:=one_B O T m eb ea hw;refine Ag (zax eb ?_)
  by_cases e:ib+1=b.size
  .rw[if_pos (by simp[e])];exact Ao (hD _ _ _ _ _ _ (zdH T m2 (by lia)))
  rw[if_neg (by simp[e])];have h:=hN _ _ _ 0 (bc+1) m2 g1 (by lia) (by lia);split
  .exact Ao h.1
  .exact Ao h.2
 |false =>
  rw[if_neg (by simp)];have m2:=one_A O T m eb ea hw;refine Ag (zax ea ?_)
  by_cases e:ia+1+1=a.size
  .rw[if_pos (by simp[e])];exact Ao (hD _ _ _ _ _ _ (zdG T hl m2 (by lia)))
  rw[if_neg (by simp[e])];have h:=hN _ _ _ (ac+1) 0 m2 (by lia) g2 (by lia);split
  .exact Ao h.1
  .exact Ao h.2
theorem zki(O:LtOk M A E s kd S L)(T:Two S L a b)(hk:kindOf z=kd)(hl:∀z, a[a.size-1]? = some z -> ∀x ∈ b.toList, leOf L x z)(hD:∀z', Like z z' -> ∀r out ia ib mg ac bc, Res (leOf L) a.toList b.toList r.toList -> Q (.done (some r, out, ia, ib, mg, ac, bc)) z')
  (hN:∀z',Like z z'->∀out ia ib mg ac bc,MI (leOf L) a.toList b.toList out.toList ia ib->ia+1<a.size->ib<b.size->N<=ia+ib->Q (.done (none,out,ia,ib,mg,ac,bc)) z'/\Q (.yield (none,out,ia,ib,mg,ac,bc)) z')
  (m:MI (leOf L) a.toList b.toList out.toList ia ib) (g1:ia+1<a.size) (g2:ib<b.size) (g3:N<=ia+ib) :
  wpS M A E s (loG a b (none,out,ia,ib,mg,ac,bc)) Q z:=by
 have key:∀z',Like z z'->∀mg,wpS M A E s (loA a b out ia ib mg ac bc) Q z':=λz' h mg=>zkj O T (h.1.trans hk) hl (hD z' h) (hN z' h) m g1 g2 g3
 unfold loG;split
 .exact Ag (BK (key _ (by exact Like.refl z) _))
 .exact Ag (BK (key _ (by exact Like.refl z) _))
theorem zkf{Q:ForInStep LO -> AM -> Prop}(O:LtOk M A E s kd S L)(T:Two S L a b)(hk:kindOf z=kd)(hl:∀z, a[a.size-1]? = some z -> ∀x ∈ b.toList, leOf L x z)(m:MI (leOf L) a.toList b.toList out.toList ia ib)(g1:ia + 1 < a.size)(g2:ib < b.size)(g3:N <= ia + ib)
  (hD:∀z',Like z z'->∀r out ia ib mg,Res (leOf L) a.toList b.toList r.toList->Q (.done (some r,out,ia,ib,mg)) z')
  (hN:∀z',Like z z'->∀out ia ib mg,MI (leOf L) a.toList b.toList out.toList ia ib->ia+1<a.size->ib<b.size->N<=ia+ib->Q (.yield (none,out,ia,ib,mg)) z') :
  wpS M A E s (loP a b mg (none,out,ia,ib,ac,bc)) Q z:=by
 refine Ag (wpS_lift (CO ⟨rfl,?_⟩))
 refine Ag (Ca (Bo (I:=λy c w=>Like z w/\∃out ia ib mg ac bc,c=(none,out,ia,ib,mg,ac,bc)/\MI (leOf L) a.toList b.toList out.toList ia ib/\ia+1<a.size/\ib<b.size/\N<=ia+ib)
  (Q:=λc w=>Like z w/\((∃r,c.1=some r/\Res (leOf L) a.toList b.toList r.toList)∨∃out ia ib mg ac bc,c=(none,out,ia,ib,mg,ac,bc)/\MI (leOf L) a.toList b.toList out.toList ia ib/\ia+1<a.size/\ib<b.size/\N<=ia+ib)) ?_ ?_ ⟨Like.refl _,_,_,_,_,_,_,rfl,m,g1,g2,g3⟩) ?_)
 .rintro y c w _ hy ⟨lk,out,ia,ib,mg,ac,bc,rfl,m,k1,k2,k3⟩;exact zki O T (lk.1.trans hk) hl (λw' h r _ _ _ _ _ _ e=>⟨Like.tr lk h,.inl ⟨r,rfl,e⟩⟩) (λw' h _ _ _ _ _ _ e u1 u2 u3=>⟨⟨Like.tr lk h,.inr ⟨_,_,_,_,_,_,rfl,e,u1,u2,u3⟩⟩,Like.tr lk h,_,_,_,_,_,_,rfl,e,u1,u2,u3⟩) m k1 k2 k3
 .rintro c w ⟨lk,r⟩;exact⟨lk,.inr r⟩
 .rintro c w ⟨lk,hc⟩;rcases hc with⟨r,e,res⟩ |⟨out,ia,ib,mg,ac,bc,rfl,m,k1,k2,k3⟩
  .rw[e];exact Ao (hD w lk _ _ _ _ _ res)
  .exact Ag (BK (Ao (hN _ (by exact lk) _ _ _ _ m k1 k2 k3)))
theorem zkg{Q:ForInStep LO -> AM -> Prop}(O:LtOk M A E s kd S L)(T:Two S L a b)(hk:kindOf z=kd)(hl:∀z, a[a.size-1]? = some z -> ∀x ∈ b.toList, leOf L x z)(m:MI (leOf L) a.toList b.toList out.toList ia ib)(g1:ia + 1 < a.size)(g2:ib < b.size)
  (hD:∀z',Like z z'->∀r out ia ib mg,Res (leOf L) a.toList b.toList r.toList->Q (.done (some r,out,ia,ib,mg)) z')
  (hN:∀z',Like z z'->∀out ia' ib' mg,MI (leOf L) a.toList b.toList out.toList ia' ib'->ia'+1<a.size->ib'<b.size->ia+ib+1<=ia'+ib'->Q (.yield (none,out,ia',ib',mg)) z') :
  wpS M A E s (loO a b (none,out,ia,ib,mg)) Q z:=by
 refine Ag (Ca (Bo (I:=λy c w=>w=z/\∃out ia' ib' ac bc,c=(none,out,ia',ib',ac,bc)/\MI (leOf L) a.toList b.toList out.toList ia' ib'/\ia'+1<a.size/\ib'<b.size/\ia+ib+y<=ia'+ib')
  (Q:=λc w=>w=z/\((∃r,c.1=some r/\Res (leOf L) a.toList b.toList r.toList)∨∃out ia' ib' ac bc,c=(none,out,ia',ib',ac,bc)/\MI (leOf L) a.toList b.toList out.toList ia' ib'/\ia'+1<a.size/\ib'<b.size/\ia+ib+1<=ia'+ib')) ?_ ?_ ⟨rfl,_,_,_,_,_,rfl,m,g1,g2,by lia⟩) ?_)
 .rintro y c w _ hy ⟨rfl,out',ia',ib',ac,bc,rfl,m',j1,j2,j3⟩;exact zkh O T hk hl m' j1 j2 (λr _ _ _ _ _ e=>⟨rfl,.inl ⟨r,rfl,e⟩⟩) λ_ _ _ _ _ e u1 u2 u3=>⟨⟨rfl,.inr ⟨_,_,_,_,_,rfl,e,u1,u2,by lia⟩⟩,rfl,_,_,_,_,_,rfl,e,u1,u2,by lia⟩
 .rintro c w ⟨rfl,out',ia',ib',ac,bc,rfl,m',j1,j2,j3⟩;exact⟨rfl,.inr ⟨out',ia',ib',ac,bc,rfl,m',j1,j2,by lia⟩⟩
 .rintro c w ⟨rfl,hc⟩;rcases hc with⟨r,e,res⟩ |⟨out',ia',ib',ac,bc,rfl,m',j1,j2,j3⟩
  .unfold loP;rw[e];exact Ao (hD _ (Like.refl _) _ _ _ _ _ res)
  .exact zkf (N:=ia'+ib') O T hk hl m' j1 j2 (Ai _) hD λz' h _ _ _ _ e u1 u2 u3=>hN z' h _ _ _ _ e u1 u2 (by lia)
end
section
variable {M:Model}{A:AQ}{E:Value->Ab->Prop}{s:Ab}{kd:Ct}{S:Keyed->Prop}{L:Keyed->Keyed->Bool}{a b:Array Keyed}
theorem zgo(O:LtOk M A E s kd S L)(T:Two S L a b){st:AM}{Q:Array Keyed -> AM -> Prop}(hk:kindOf st=kd)(ha : 0 < a.size)(hb : 0 < b.size)(h0:∀y, b[0]? = some y -> ∀x ∈ a.toList, leOf L y x)
  (hl:∀z,a[a.size-1]?=some z->∀x∈b.toList,leOf L x z) (hQ:∀r st',Res (leOf L) a.toList b.toList r.toList->Like st st'->Q r st'):wpS M A E s (zfw a b) Q st:=by
 rw[zii];have atA:∀i,i<a.size->∃x,a[i]?=some x:=λi h=>⟨a[i],by simp[h]⟩
 have atB:∀i,i<b.size->∃x,b[i]?=some x:=λi h=>⟨b[i],by simp[h]⟩
 obtain⟨b0,e0⟩:=atB 0 hb;have m0:MI (leOf L) a.toList b.toList (#[b0]:Array Keyed).toList 0 1:=MI.start T.sb (by simpa using e0) (h0 b0 e0);refine Ag (wpS_lift (CO ⟨rfl,?_⟩));refine Ag (zax e0 ?_)
 by_cases hb1:b.size=1
 .rw[if_pos (by simp[hb1])];exact Ao (hQ _ _ (zdH T m0 (by lia)) (Like.refl _))
 rw[if_neg (by simp;lia)]
 by_cases ha1:a.size=1
 .rw[if_pos (by simp[ha1])];exact Ao (hQ _ _ (zdG T hl m0 (by lia)) (Like.refl _))
 rw[if_neg (by simp;lia)];refine Ag (Dw ?_)
 refine Ag (Ca (Bo (I:=λx c st'=>Like st st'/\∃out ia ib mg,c=(none,out,ia,ib,mg)/\MI (leOf L) a.toList b.toList out.toList ia ib/\ia+1<a.size/\ib<b.size/\x+1<=ia+ib)
  (Q:=λc st'=>Like st st'/\∃r,c.1=some r/\Res (leOf L) a.toList b.toList r.toList) ?step ?fin ⟨Like.refl _,_,_,_,_,rfl,m0,by lia,by lia,by lia⟩) ?post)
 case fin =>
  rintro c st' ⟨_,out,ia,ib,mg,rfl,m,g1,g2,g3⟩;exact absurd g3 (by lia)
 case post =>
  rintro c st' ⟨lk,r,e,res⟩;rw[e];exact Ao (hQ r st' res lk)
 case step =>
  rintro x c st' _ hx ⟨lk,out,ia,ib,mg,rfl,m,g1,g2,g3⟩;exact zkg O T (lk.1.trans hk) hl m g1 g2 (λz' h r _ _ _ _ e=>⟨Like.tr lk h,r,rfl,e⟩) λz' h _ _ _ _ e u1 u2 u3=>⟨Like.tr lk h,_,_,_,_,rfl,e,u1,u2,by lia⟩
end
end TS
set_option maxHeartbeats 8000000
namespace TS
open PySem PyProof.Rows
section
variable {α:Type}{le:α->α->Prop}
structure MJ (le:α->α->Prop) (a b r:List α) (na nb:Nat):Prop where
 ha:na<=a.length
 hb:nb<=b.length
 perm:(a.take na++b.take nb++r).Perm (a++b)
 sorted:r.Pairwise le
 lea:∀x∈a.take na,∀y∈r,le x y
 leb:∀x∈b.take nb,∀y∈r,le x y
theorem zeL(a:List α)(i n:Nat)(h:i<=n):a.take n=a.take i++(a.drop i).take (n-i):=by rw[<- List.take_add,show i+(n-i)=n by lia]
theorem MJ.takeA{a b r:List α}{na nb:Nat}(m:MJ le a b r na nb)(sa:a.Pairwise le)(i:Nat)(hi:i <= na)(h:∀x ∈ b.take nb, ∀y ∈ (a.drop i).take (na-i), le x y) :
  MJ le a b ((a.drop i).take (na-i)++r) i nb:=by
 have e:=zeL a i na hi;have sd:(a.take i++(a.drop i).take (na-i)).Pairwise le:=by rw[<- e];exact sa.sublist (BV _ _)
 obtain⟨s1,s2,s3⟩:=AV.mp sd;refine⟨Bf hi m.ha,m.hb,?_,AV.mpr ⟨s2,m.sorted,λx hx y hy=>m.lea x (by rw[e];exact Ak _ hx) y hy⟩,λx hx y hy=>?_,λx hx y hy=>?_⟩
 .have:=m.perm;rw[e]at this;refine List.Perm.trans ?_ this;rw[AC,AC,AC,<- AC (b.take nb),<- AC ((a.drop i).take (na-i))];exact List.Perm.append_left _ (List.Perm.append_right _ Cy)
 .rcases Aj.mp hy with q |q
  .exact s3 x hx y q
  .exact m.lea x (by rw[e];exact Bg _ hx) y q
 .rcases Aj.mp hy with q |q
  .exact h x hx y q
  .exact m.leb x hx y q
theorem MJ.takeB{a b r:List α}{na nb:Nat}(m:MJ le a b r na nb)(sb:b.Pairwise le)(i:Nat)(hi:i <= nb)(h:∀x ∈ a.take na, ∀y ∈ (b.drop i).take (nb-i), le x y) :
  MJ le a b ((b.drop i).take (nb-i)++r) na i:=by
 have e:=zeL b i nb hi;have sd:(b.take i++(b.drop i).take (nb-i)).Pairwise le:=by rw[<- e];exact sb.sublist (BV _ _)
 obtain⟨s1,s2,s3⟩:=AV.mp sd;refine⟨m.ha,Bf hi m.hb,?_,AV.mpr ⟨s2,m.sorted,λx hx y hy=>m.leb x (by rw[e];exact Ak _ hx) y hy⟩,λx hx y hy=>?_,λx hx y hy=>?_⟩
 .have:=m.perm;rw[e]at this;simpa[AC]using this
 .rcases Aj.mp hy with q |q
  .exact h x hx y q
  .exact m.lea x hx y q
 .rcases Aj.mp hy with q |q
  .exact s3 x hx y q
  .exact m.leb x (by rw[e];exact Bg _ hx) y q
theorem MJ.doneB{a b r:List α}{nb:Nat}(m:MJ le a b r 0 nb)(sb:b.Pairwise le):Res le a b (a.take 0++b.take nb++r) :=
 ⟨m.perm,by rw[Cv,B7];exact AV.mpr ⟨sb.sublist (BV _ _),m.sorted,m.leb⟩⟩
theorem MJ.doneA{a b r:List α}{na:Nat}(m:MJ le a b r na 0)(sa:a.Pairwise le):Res le a b (a.take na++b.take 0++r) :=
 ⟨m.perm,by rw[Cv,AH];exact AV.mpr ⟨sa.sublist (BV _ _),m.sorted,m.lea⟩⟩
theorem MJ.firstB{a b r:List α}{na nb:Nat}(m:MJ le a b r na nb)(sa:a.Pairwise le)(sb:b.Pairwise le)(h:∀x∈b.take nb,∀y∈a.take na,le x y):Res le a b (b.take nb++a.take na++r):=by
 refine⟨List.Perm.trans (List.Perm.append_right _ Cy) m.perm,?_⟩;refine AV.mpr ⟨AV.mpr ⟨sb.sublist (BV _ _),sa.sublist (BV _ _),h⟩,m.sorted,λx hx y hy=>?_⟩;rcases Aj.mp hx with q |q
 .exact m.leb x q y hy
 .exact m.lea x q y hy
end
end TS
set_option maxHeartbeats 8000000
namespace TS
open PySem PyProof.Rows
section
variable {M:Model}{A:AQ}{E:Value->Ab->Prop}{s:Ab}{kd:Ct}{S:Keyed->Prop}{L:Keyed->Keyed->Bool}{a b out:Array Keyed}{na nb:Nat}
theorem zfD{a:Array Keyed}(O:LtOk M A E s kd S L)(sa:a.toList.Pairwise (leOf L))(Sa:∀x∈a.toList,S x){i:Nat}{x y:Keyed}(h:a[i]?=some x)(hy:y∈a.toList.take (i+1)):leOf L y x:=by
 have hi:i<a.toList.length:=by have:=(Bm.mp h).1;rw[AG];exact this
 have e:a.toList.take (i+1)=a.toList.take i++[x]:=by
  rw[List.take_succ];have:a.toList[i]?=some x:=by simpa using h
  rw[this];rfl
 rw[e]at hy;rcases Aj.mp hy with q |q
 .have:=sa.sublist (BV (i+1) _);rw[e]at this;exact (AV.mp this).2.2 y q x AE
 .rw[Ah.mp q];exact O.rf (Sa x (zaq h))
theorem zef{a:Array Keyed}{i:Nat}{x:Keyed}(h:a[i]?=some x):(a.toList.drop i).take (i+1-i)=[x]:=by rw[zbW h,show i+1-i=1 by lia];rfl
theorem zmf(O:LtOk M A E s kd S L)(T:Two S L a b)(m:MJ (leOf L) a.toList b.toList out.reverse.toList (na + 1) (nb + 1)){x y:Keyed}(hb:b[nb]? = some x)(ha:a[na]? = some y)(h:L x y=true) :
  MJ (leOf L) a.toList b.toList (out.push y).reverse.toList na (nb+1):=by
 have:=m.takeA T.sa na (CT _) λz hz w hw=>by rw[zef ha]at hw;rw[Ah.mp hw];exact O.tr z x y (T.Sb z (BB hz)) (T.Sb x (zaq hb)) (T.Sa y (zaq ha)) (zfD O T.sb T.Sb hb hz) (O.as x y (T.Sb x (zaq hb)) (T.Sa y (zaq ha)) h)
 rw[zef ha]at this;simpa using this
theorem zme(O:LtOk M A E s kd S L)(T:Two S L a b)(m:MJ (leOf L) a.toList b.toList out.reverse.toList (na + 1) (nb + 1)){x y:Keyed}(hb:b[nb]? = some x)(ha:a[na]? = some y)(h:L x y=false) :
  MJ (leOf L) a.toList b.toList (out.push x).reverse.toList (na+1) nb:=by
 have:=m.takeB T.sb nb (CT _) λz hz w hw=>by rw[zef hb]at hw;rw[Ah.mp hw];exact O.tr z y x (T.Sa z (BB hz)) (T.Sa y (zaq ha)) (T.Sb x (zaq hb)) (zfD O T.sa T.Sa ha hz) h
 rw[zef hb]at this;simpa using this
theorem zmv(O:LtOk M A E s kd S L)(T:Two S L a b)(m:MJ (leOf L) a.toList b.toList out.reverse.toList na (nb + 1)){x:Keyed}(hb:b[nb]? = some x)(i:Nat)(hi:i <= na)(h:∀j y, i <= j -> j < na -> a[j]? = some y -> L x y=true) :
  MJ (leOf L) a.toList b.toList (out++(a.extract i na).reverse).reverse.toList i (nb+1):=by
 have:=m.takeA T.sa i hi λz hz w hw=>by obtain⟨j,hj,e⟩:=zfy hw;exact O.tr z x w (T.Sb z (BB hz)) (T.Sb x (zaq hb)) (T.Sa w (zaq e)) (zfD O T.sb T.Sb hb hz) (O.as x w (T.Sb x (zaq hb)) (T.Sa w (zaq e)) (h (i+j) w (by lia) (by lia) e))
 have e2:(out++(a.extract i na).reverse).reverse.toList=(a.toList.drop i).take (na-i)++out.reverse.toList:=by simp[CI,B9]
 rw[e2];exact this
theorem zmu(O:LtOk M A E s kd S L)(T:Two S L a b)(m:MJ (leOf L) a.toList b.toList out.reverse.toList (na + 1) nb){y:Keyed}(ha:a[na]? = some y)(i:Nat)(hi:i <= nb)(h:∀j x, i <= j -> j < nb -> b[j]? = some x -> L x y=false) :
  MJ (leOf L) a.toList b.toList (out++(b.extract i nb).reverse).reverse.toList (na+1) i:=by
 have:=m.takeB T.sb i hi λz hz w hw=>by obtain⟨j,hj,e⟩:=zfy hw;exact O.tr z y w (T.Sa z (BB hz)) (T.Sa y (zaq ha)) (T.Sb w (zaq e)) (zfD O T.sa T.Sa ha hz) (h (i+j) w (by lia) (by lia) e)
 have e2:(out++(b.extract i nb).reverse).reverse.toList=(b.toList.drop i).take (nb-i)++out.reverse.toList:=by simp[CI,B9]
 rw[e2];exact this
end
end TS
set_option maxHeartbeats 8000000
namespace TS
open PySem PyProof.Rows
section
variable {M:Model}{A:AQ}{E:Value->Ab->Prop}{s:Ab}{kd:Ct}{S:Keyed->Prop}{L:Keyed->Keyed->Bool}{a b out:Array Keyed}{na nb:Nat}
theorem zl2(O:LtOk M A E s kd S L)(T:Two S L a b){st:AM}(hk:kindOf st=kd){x:Keyed}(Sx:S x){n:Nat}(hn:n <= a.size){Q:Option Nat -> AM -> Prop}
  (hQ:∀k,k<=n->(∀j y,j<k->a[j]?=some y->L x y=false)->(∀j y,k<=j->j<n->a[j]?=some y->L x y=true)->Q (some k) st) {hint:Nat} (hh:hint<n) :
  wpS M A E s (zcb false x a 0 n hint) Q st:=by
 have at_:∀i,i<n->∃y,a[0+i]?=some y:=λi h=>⟨a[0+i]'(by lia),by simp[show i<a.size by lia]⟩
 refine zbr (b:=λi=>!(a[0+i]?.elim false λy=>L x y)) O hk Sx (λi h=>?_) (λi j hij hj q=>?_) hh λk h1 h2 h3=>?_
 .obtain⟨y,e⟩:=at_ i h;exact⟨y,e,T.Sa y (zaq e),by rw[if_neg (by simp),e];rfl⟩
 .obtain⟨y,e⟩:=at_ j hj;obtain⟨z,e2⟩:=at_ i (by lia);rw[e]at q;rw[e2];have q1:L x y=false:=by simpa using q
  have le1:leOf L z y:=zcp O T.sa T.Sa e2 (by
   have:y∈(a.toList.drop (0+i)).drop (j-i):=by rw[List.drop_drop,show 0+i+(j-i)=0+j by lia,zbW e];exact AE
   exact BA this)
  have:L x z=false:=O.tr z y x (T.Sa z (zaq e2)) (T.Sa y (zaq e)) Sx le1 q1;simpa using this
 .refine hQ k h1 (λj y hj e=>?_) (λj y hj hjn e=>?_)
  .have:=h2 j hj;rw[Cf,e]at this;simpa using this
  .have:=h3 j hj hjn;rw[Cf,e]at this;simpa using this
theorem zl1(O:LtOk M A E s kd S L)(T:Two S L a b){st:AM}(hk:kindOf st=kd){y:Keyed}(Sy:S y){n:Nat}(hn:n <= b.size){Q:Option Nat -> AM -> Prop}
  (hQ:∀k,k<=n->(∀j x,j<k->b[j]?=some x->L x y=true)->(∀j x,k<=j->j<n->b[j]?=some x->L x y=false)->Q (some k) st) {hint:Nat} (hh:hint<n) :
  wpS M A E s (zcb true y b 0 n hint) Q st:=by
 have at_:∀i,i<n->∃x,b[0+i]?=some x:=λi h=>⟨b[0+i]'(by lia),by simp[show i<b.size by lia]⟩
 refine zbr (b:=λi=>b[0+i]?.elim false λx=>L x y) O hk Sy (λi h=>?_) (λi j hij hj q=>?_) hh λk h1 h2 h3=>?_
 .obtain⟨x,e⟩:=at_ i h;exact⟨x,e,T.Sb x (zaq e),by rw[if_pos rfl,e];rfl⟩
 .obtain⟨x,e⟩:=at_ j hj;obtain⟨z,e2⟩:=at_ i (by lia);rw[e]at q;rw[e2];have q1:L x y=true:=q;show L z y=true
  have le1:leOf L z x:=zcp O T.sb T.Sb e2 (by
   have:x∈(b.toList.drop (0+i)).drop (j-i):=by rw[List.drop_drop,show 0+i+(j-i)=0+j by lia,zbW e];exact AE
   exact BA this)
  cases w:L z y with
  |true=>rfl
  |false =>
   have:L x y=false:=O.tr y z x Sy (T.Sb z (zaq e2)) (T.Sb x (zaq e)) w le1;rw[this]at q1;cases q1
 .refine hQ k h1 (λj x hj e=>?_) (λj x hj hjn e=>?_)
  .have:=h2 j hj;rw[Cf,e]at this;exact this
  .have:=h3 j hj hjn;rw[Cf,e]at this;exact this
theorem zbn(a:Array Keyed)(i:Nat):(a.extract 0 i).toList=a.toList.take i:=by rw[CI,B9,List.drop_zero,Nat.sub_zero]
theorem end_A(T:Two S L a b)(m:MJ (leOf L) a.toList b.toList out.reverse.toList 0 nb):Res (leOf L) a.toList b.toList (a.extract 0 0++b.extract 0 nb++out.reverse).toList:=by rw[Bb,Bb,zbn,zbn];exact m.doneB T.sb
theorem zmq(T:Two S L a b)(m:MJ (leOf L) a.toList b.toList out.reverse.toList na 0):Res (leOf L) a.toList b.toList (a.extract 0 na++b.extract 0 0++out.reverse).toList:=by rw[Bb,Bb,zbn,zbn];exact m.doneA T.sa
theorem end_B (T:Two S L a b) (h0:∀ y,b[0]?=some y→∀ x∈a.toList,leOf L y x) (m:MJ (leOf L) a.toList b.toList out.reverse.toList na 1):Res (leOf L) a.toList b.toList (b.extract 0 1++a.extract 0 na++out.reverse).toList:=by
  rw[Bb,Bb,zbn,zbn]
  refine m.firstB T.sa T.sb λx hx y hy=>?_
  cases hb:b.toList with
  | nil=>rw[hb] at hx;cases hx
  | cons z r =>
    rw[hb] at hx
    have e:x=z:=Ah.mp hx
    subst e
    exact h0 x (by have : b.toList[0]? = some x := by rw[hb]; rfl
                   simpa using this) y (BB hy)
end
end TS
set_option maxHeartbeats 8000000
namespace TS
open PySem PyProof.Rows
section
variable {M:Model}{A:AQ}{E:Value->Ab->Prop}{s:Ab}{kd:Ct}{S:Keyed->Prop}{L:Keyed->Keyed->Bool}{a b out:Array Keyed}{na nb:Nat}
theorem lastA(O:LtOk M A E s kd S L)(T:Two S L a b)(h1:0<na)(h2:0<nb)(m:MJ (leOf L) a.toList b.toList out.reverse.toList na nb){x y:Keyed}(hb:b[nb-1]?=some x)(ha:a[na-1]?=some y)(h:L x y=true):MJ (leOf L) a.toList b.toList (out.push y).reverse.toList (na-1) nb:=by obtain⟨p,rfl⟩:∃p,na=p+1:=⟨na-1,by lia⟩;obtain⟨q,rfl⟩:∃q,nb=q+1:=⟨nb-1,by lia⟩;exact zmf O T m hb ha h
theorem lastB(O:LtOk M A E s kd S L)(T:Two S L a b)(h1:0<na)(h2:0<nb)(m:MJ (leOf L) a.toList b.toList out.reverse.toList na nb){x y:Keyed}(hb:b[nb-1]?=some x)(ha:a[na-1]?=some y)(h:L x y=false):MJ (leOf L) a.toList b.toList (out.push x).reverse.toList na (nb-1):=by obtain⟨p,rfl⟩:∃p,na=p+1:=⟨na-1,by lia⟩;obtain⟨q,rfl⟩:∃q,nb=q+1:=⟨nb-1,by lia⟩;exact zme O T m hb ha h
theorem backA(O:LtOk M A E s kd S L)(T:Two S L a b)(h2:0<nb)(m:MJ (leOf L) a.toList b.toList out.reverse.toList na nb){x:Keyed}(hb:b[nb-1]?=some x)(i:Nat)(hi:i<=na)(h:∀j y,i<=j->j<na->a[j]?=some y->L x y=true):MJ (leOf L) a.toList b.toList (out++(a.extract i na).reverse).reverse.toList i nb:=by obtain⟨q,rfl⟩:∃q,nb=q+1:=⟨nb-1,by lia⟩;exact zmv O T m hb i hi h
theorem backB(O:LtOk M A E s kd S L)(T:Two S L a b)(h1:0<na)(m:MJ (leOf L) a.toList b.toList out.reverse.toList na nb){y:Keyed}(ha:a[na-1]?=some y)(i:Nat)(hi:i<=nb)(h:∀j x,i<=j->j<nb->b[j]?=some x->L x y=false):MJ (leOf L) a.toList b.toList (out++(b.extract i nb).reverse).reverse.toList na i:=by obtain⟨p,rfl⟩:∃p,na=p+1:=⟨na-1,by lia⟩;exact zmu O T m ha i hi h
noncomputable abbrev RH:=Option (Array Keyed)×Nat×Nat×Array Keyed×Nat×Nat×Nat
noncomputable def hiC(a b:Array Keyed)(na nb:Nat)(out:Array Keyed)(mg ac bc:Nat):StateT AM Sem (ForInStep RH) :=
 elem' a (na-1) >>= λx =>
  if (na-1 == 0)=true then pure (.done (some (a.extract 0 (na-1)++b.extract 0 nb++(out.push x).reverse),na-1,nb,out.push x,mg,ac,bc))
  else if (decide (ac<7) && decide (bc<7))=true then pure (.done (none,na-1,nb,out.push x,mg,ac,bc))
  else pure (.yield (none,na-1,nb,out.push x,mg,ac,bc))
noncomputable def hiB(a b:Array Keyed)(na nb:Nat)(out:Array Keyed)(mg ac bc:Nat):StateT AM Sem (ForInStep RH) :=
 elem' b (nb-1) >>= λx =>
  if (nb-1 == 1)=true then pure (.done (some (b.extract 0 (nb-1)++a.extract 0 na++(out.push x).reverse),na,nb-1,out.push x,mg,ac,bc))
  else elem' a (na-1) >>= λy=>zcb true y b 0 (nb-1) (nb-1-1) >>= λw =>
   match w with
   |some t =>
    if nb-1-t > 0 then
     if (t == 1)=true then pure (.done (some (b.extract 0 t++a.extract 0 na++(out.push x++(b.extract t (nb-1)).reverse).reverse),na,t,out.push x++(b.extract t (nb-1)).reverse,mg,ac,nb-1-t))
     else if (t == 0)=true then pure (.done (some (a.extract 0 na++b.extract 0 t++(out.push x++(b.extract t (nb-1)).reverse).reverse),na,t,out.push x++(b.extract t (nb-1)).reverse,mg,ac,nb-1-t))
     else hiC a b na t (out.push x++(b.extract t (nb-1)).reverse) mg ac (nb-1-t)
    else hiC a b na (nb-1) (out.push x) mg ac (nb-1-t)
   |_=>pure (.done (some (a.extract 0 na++b.extract 0 (nb-1)++(out.push x).reverse),na,nb-1,out.push x,mg,ac,bc))
noncomputable def hiA(a b:Array Keyed)(na nb:Nat)(out:Array Keyed)(mg ac bc:Nat):StateT AM Sem (ForInStep RH) :=
 elem' b (nb-1) >>= λx=>zcb false x a 0 na (na-1) >>= λw =>
  match w with
  |some t =>
   if na-t > 0 then
    if (t == 0)=true then pure (.done (some (a.extract 0 t++b.extract 0 nb++(out++(a.extract t na).reverse).reverse),t,nb,out++(a.extract t na).reverse,mg,na-t,bc))
    else hiB a b t nb (out++(a.extract t na).reverse) mg (na-t) bc
   else hiB a b na nb out mg (na-t) bc
  |_=>pure (.done (some (a.extract 0 na++b.extract 0 nb++out.reverse),na,nb,out,mg,ac,bc))
noncomputable def hiG(a b:Array Keyed)(c:RH):StateT AM Sem (ForInStep RH) :=
 if c.2.2.2.2.1 > 1 then zeP (c.2.2.2.2.1-1) >>= λ_=>hiA a b c.2.1 c.2.2.1 c.2.2.2.1 (c.2.2.2.2.1-1) c.2.2.2.2.2.1 c.2.2.2.2.2.2
 else zeP c.2.2.2.2.1 >>= λ_=>hiA a b c.2.1 c.2.2.1 c.2.2.2.1 c.2.2.2.2.1 c.2.2.2.2.2.1 c.2.2.2.2.2.2
noncomputable abbrev RI:=Option (Array Keyed)×Nat×Nat×Array Keyed×Nat×Nat
noncomputable def hiI(a b:Array Keyed)(mg:Nat)(c:RI):StateT AM Sem (ForInStep RI) :=
 elem' b (c.2.2.1-1) >>= λx=>elem' a (c.2.1-1) >>= λy=>lt' x y >>= λw =>
  match w with
  |some v =>
   if v=true then elem' a (c.2.1-1) >>= λy =>
    if (c.2.1-1 == 0)=true then pure (.done (some (a.extract 0 (c.2.1-1)++b.extract 0 c.2.2.1++(c.2.2.2.1.push y).reverse),c.2.1-1,c.2.2.1,c.2.2.2.1.push y,c.2.2.2.2.1+1,0))
    else if c.2.2.2.2.1+1 ≥ mg then pure (.done (none,c.2.1-1,c.2.2.1,c.2.2.2.1.push y,c.2.2.2.2.1+1,0))
    else pure (.yield (none,c.2.1-1,c.2.2.1,c.2.2.2.1.push y,c.2.2.2.2.1+1,0))
   else elem' b (c.2.2.1-1) >>= λx =>
    if (c.2.2.1-1 == 1)=true then pure (.done (some (b.extract 0 (c.2.2.1-1)++a.extract 0 c.2.1++(c.2.2.2.1.push x).reverse),c.2.1,c.2.2.1-1,c.2.2.2.1.push x,0,c.2.2.2.2.2+1))
    else if c.2.2.2.2.2+1 ≥ mg then pure (.done (none,c.2.1,c.2.2.1-1,c.2.2.2.1.push x,0,c.2.2.2.2.2+1))
    else pure (.yield (none,c.2.1,c.2.2.1-1,c.2.2.2.1.push x,0,c.2.2.2.2.2+1))
  |_=>pure (.done (some (a.extract 0 c.2.1++b.extract 0 c.2.2.1++c.2.2.2.1.reverse),c.2.1,c.2.2.1,c.2.2.2.1,c.2.2.2.2.1,c.2.2.2.2.2))
noncomputable abbrev RO:=Option (Array Keyed)×Nat×Nat×Array Keyed×Nat
noncomputable def hiP(a b:Array Keyed)(mg:Nat)(c:RI):StateT AM Sem (ForInStep RO) :=
 Cu (λ_=>StateT AM Sem (ForInStep RO)) c.1 (λr=>pure (.done (some r,c.2.1,c.2.2.1,c.2.2.2.1,mg))) λ_=>(liftM (rule "list.sort.gallop"):StateT AM Sem Unit) >>= λ_=>forIn [:a.size+b.size] ((none,c.2.1,c.2.2.1,c.2.2.2.1,mg+1,c.2.2.2.2.1,c.2.2.2.2.2):RH) (λ_ c=>hiG a b c) >>= λc =>
  Cu (λ_=>StateT AM Sem (ForInStep RO)) c.1 (λr=>pure (.done (some r,c.2.1,c.2.2.1,c.2.2.2.1,c.2.2.2.2.1))) λ_=>zeP (c.2.2.2.2.1+1) >>= λ_=>pure (.yield (none,c.2.1,c.2.2.1,c.2.2.2.1,c.2.2.2.2.1+1))
noncomputable def hiO(a b:Array Keyed)(c:RO):StateT AM Sem (ForInStep RO) :=
 forIn [:a.size+b.size] ((none,c.2.1,c.2.2.1,c.2.2.2.1,0,0):RI) (λ_ d=>hiI a b c.2.2.2.2 d) >>= λd=>hiP a b c.2.2.2.2 d
noncomputable def zke(a b:Array Keyed):StateT AM Sem (Array Keyed) :=
 (liftM (rule "list.sort.merge-hi"):StateT AM Sem Unit) >>= λ_=>elem' a (a.size-1) >>= λx =>
  if (a.size-1 == 0)=true then pure (a.extract 0 (a.size-1)++b.extract 0 b.size++#[x].reverse)
  else if (b.size == 1)=true then pure (b.extract 0 b.size++a.extract 0 (a.size-1)++#[x].reverse)
  else get >>= λs=>forIn [:a.size+b.size] ((none,a.size-1,b.size,#[x],gallopOf s):RO) (λ_ c=>hiO a b c) >>= λc =>
   Cu (λ_=>StateT AM Sem (Array Keyed)) c.1 (λr=>pure r) λ_=>unsupported "internal:list.sort.merge-bound"
theorem zij(a b:Array Keyed):zfx a b=zke a b:=rfl
variable {Q:ForInStep RH->AM->Prop}{z:AM}{N mg ac bc:Nat}{x y:Keyed}
theorem zhN(O:LtOk M A E s kd S L)(T:Two S L a b)(hD:∀r na nb out mg ac bc, Res (leOf L) a.toList b.toList r.toList -> Q (.done (some r, na, nb, out, mg, ac, bc)) z)
  (hN:∀na nb out mg ac bc,MJ (leOf L) a.toList b.toList out.reverse.toList na nb->0<na->1<nb->na+nb<=N->na<=a.size->nb<=b.size->Q (.done (none,na,nb,out,mg,ac,bc)) z/\Q (.yield (none,na,nb,out,mg,ac,bc)) z)
  (m:MJ (leOf L) a.toList b.toList out.reverse.toList na nb) (ea:a[na-1]?=some y) (eb:b[nb-1]?=some x) (hw:L x y=true) (g1:0<na) (g2:1<nb) (g3:na+nb<=N) (g4:na<=a.size) (g5:nb<=b.size) :
  wpS M A E s (hiC a b na nb out mg ac bc) Q z:=by
 have n4:=lastA O T g1 (by lia) m eb ea hw;refine Ag (zax ea ?_)
 by_cases e:na-1=0
 .rw[if_pos (by simp[e])];rw[e]at n4;rw[e];exact Ao (hD _ _ _ _ _ _ _ (end_A T n4))
 rw[if_neg (by simp[e])];have h:=hN _ _ _ mg ac bc n4 (by lia) g2 (by lia) (by lia) g5;split
 .exact Ao h.1
 .exact Ao h.2
theorem zhO(O:LtOk M A E s kd S L)(T:Two S L a b)(hk:kindOf z=kd)(h0:∀y, b[0]? = some y -> ∀x ∈ a.toList, leOf L y x)(hD:∀r na nb out mg ac bc, Res (leOf L) a.toList b.toList r.toList -> Q (.done (some r, na, nb, out, mg, ac, bc)) z)
  (hN:∀na nb out mg ac bc,MJ (leOf L) a.toList b.toList out.reverse.toList na nb->0<na->1<nb->na+nb<=N->na<=a.size->nb<=b.size->Q (.done (none,na,nb,out,mg,ac,bc)) z/\Q (.yield (none,na,nb,out,mg,ac,bc)) z)
  (m:MJ (leOf L) a.toList b.toList out.reverse.toList na nb) (ea:a[na-1]?=some y) (eb:b[nb-1]?=some x) (hw:L x y=false) (g1:0<na) (g2:1<nb) (g3:na+nb<=N) (g4:na<=a.size) (g5:nb<=b.size) :
  wpS M A E s (hiB a b na nb out mg ac bc) Q z:=by
 have n2:=lastB O T g1 (by lia) m eb ea hw;refine Ag (zax eb ?_)
 by_cases e3:nb-1=1
 .rw[if_pos (by simp[e3])];rw[e3]at n2;rw[e3];exact Ao (hD _ _ _ _ _ _ _ (end_B T h0 n2))
 rw[if_neg (by simp[e3])];refine Ag (zax ea ?_);refine Ag (zl1 O T hk (T.Sa _ (zaq ea)) (by lia) (λt r1 r2 r3=>?_) (by lia));dsimp only
 by_cases hk1:nb-1-t > 0
 .rw[if_pos hk1];have n3:=backB O T g1 n2 ea t r1 r3
  by_cases e4:t=1
  .rw[if_pos (by simp[e4])];rw[e4]at n3;rw[e4];exact Ao (hD _ _ _ _ _ _ _ (end_B T h0 n3))
  rw[if_neg (by simp[e4])]
  by_cases e6:t=0
  .rw[if_pos (by simp[e6])];rw[e6]at n3;rw[e6];exact Ao (hD _ _ _ _ _ _ _ (zmq T n3))
  rw[if_neg (by simp[e6])];have hl:t-1<b.size:=by lia
  exact zhN O T hD hN n3 ea (by simp[hl]) (r2 (t-1) b[t-1] (by lia) (by simp[hl])) g1 (by lia) (by lia) g4 (by lia)
 rw[if_neg hk1];have hl:nb-1-1<b.size:=by lia
 exact zhN O T hD hN n2 ea (by simp[hl]) (r2 (nb-1-1) b[nb-1-1] (by lia) (by simp[hl])) g1 (by lia) (by lia) g4 (by lia)
theorem zks(O:LtOk M A E s kd S L)(T:Two S L a b)(hk:kindOf z=kd)(h0:∀y, b[0]? = some y -> ∀x ∈ a.toList, leOf L y x)(hD:∀r na nb out mg ac bc, Res (leOf L) a.toList b.toList r.toList -> Q (.done (some r, na, nb, out, mg, ac, bc)) z)
  (hN:∀na nb out mg ac bc,MJ (leOf L) a.toList b.toList out.reverse.toList na nb->0<na->1<nb->na+nb<=N->na<=a.size->nb<=b.size->Q (.done (none,na,nb,out,mg,ac,bc)) z/\Q (.yield (none,na,nb,out,mg,ac,bc)) z)
  (m:MJ (leOf L) a.toList b.toList out.reverse.toList na nb) (g1:0<na) (g2:1<nb) (g3:na+nb<=N) (g4:na<=a.size) (g5:nb<=b.size) :
  wpS M A E s (hiA a b na nb out mg ac bc) Q z:=by
 have hb:nb-1<b.size:=by lia
 have eb:b[nb-1]?=some b[nb-1]:=by simp[hb]
 refine Ag (zax eb ?_);refine Ag (zl2 O T hk (T.Sb _ (zaq eb)) g4 (λt q1 q2 q3=>?_) (by lia));dsimp only
 by_cases hk0:na-t > 0
 .rw[if_pos hk0];have n1:=backA O T (by lia) m eb t q1 q3
  by_cases e1:t=0
  .rw[if_pos (by simp[e1])];rw[e1]at n1;rw[e1];exact Ao (hD _ _ _ _ _ _ _ (end_A T n1))
  rw[if_neg (by simp[e1])];have hl:t-1<a.size:=by lia
  exact zhO O T hk h0 hD hN n1 (by simp[hl]) eb (q2 (t-1) a[t-1] (by lia) (by simp[hl])) (by lia) g2 (by lia) (by lia) g5
 rw[if_neg hk0];have hl:na-1<a.size:=by lia
 exact zhO O T hk h0 hD hN m (by simp[hl]) eb (q2 (na-1) a[na-1] (by lia) (by simp[hl])) g1 g2 g3 g4 g5
theorem zkq{Q:ForInStep RI -> AM -> Prop}(O:LtOk M A E s kd S L)(T:Two S L a b)(hk:kindOf z=kd)(h0:∀y, b[0]? = some y -> ∀x ∈ a.toList, leOf L y x)(m:MJ (leOf L) a.toList b.toList out.reverse.toList na nb)(g1 : 0 < na)(g2 : 1 < nb)(g4:na <= a.size)(g5:nb <= b.size)
  (hD:∀r na nb out ac bc,Res (leOf L) a.toList b.toList r.toList->Q (.done (some r,na,nb,out,ac,bc)) z)
  (hN:∀na' nb' out ac bc,MJ (leOf L) a.toList b.toList out.reverse.toList na' nb'->0<na'->1<nb'->na'+nb'+1<=na+nb->na'<=a.size->nb'<=b.size->Q (.done (none,na',nb',out,ac,bc)) z/\Q (.yield (none,na',nb',out,ac,bc)) z) :
  wpS M A E s (hiI a b mg (none,na,nb,out,ac,bc)) Q z:=by
 obtain⟨xb,eb⟩:∃x,b[nb-1]?=some x:=⟨b[nb-1]'(by lia),by simp[show nb-1<b.size by lia]⟩;obtain⟨xa,ea⟩:∃x,a[na-1]?=some x:=⟨a[na-1]'(by lia),by simp[show na-1<a.size by lia]⟩;refine Ag (zax eb (Ag (zax ea (Ag (O.lt xb xa (T.Sb _ (zaq eb)) (T.Sa _ (zaq ea)) _ _ hk ?_)))));dsimp only
 cases hw:L xb xa with
 |true =>
  rw[if_pos rfl];have m2:=lastA O T g1 (by lia) m eb ea hw;refine Ag (zax ea ?_)
  by_cases e:na-1=0
  .rw[if_pos (by simp[e])];rw[e]at m2;rw[e];exact Ao (hD _ _ _ _ _ _ (end_A T m2))
  rw[if_neg (by simp[e])];have h:=hN _ _ _ (ac+1) 0 m2 (by lia) g2 (by lia) (by lia) g5;split
  .exact Ao h.1
  .exact Ao h.2
 |false =>
  rw[if_neg (by simp)];have m2:=lastB O T g1 (by lia) m eb ea hw;refine Ag (zax eb ?_)
  by_cases e:nb-1=1
  .rw[if_pos (by simp[e])];rw[e]at m2;rw[e];exact Ao (hD _ _ _ _ _ _ (end_B T h0 m2))
  rw[if_neg (by simp[e])];have h:=hN _ _ _ 0 (bc+1) m2 g1 (by lia) (by lia) g4 (by lia);split
  .exact Ao h.1
  .exact Ao h.2
theorem zkr(O:LtOk M A E s kd S L)(T:Two S L a b)(hk:kindOf z=kd)(h0:∀y, b[0]? = some y -> ∀x ∈ a.toList, leOf L y x)(hD:∀z', Like z z' -> ∀r na nb out mg ac bc, Res (leOf L) a.toList b.toList r.toList -> Q (.done (some r, na, nb, out, mg, ac, bc)) z')
  (hN:∀z',Like z z'->∀na nb out mg ac bc,MJ (leOf L) a.toList b.toList out.reverse.toList na nb->0<na->1<nb->na+nb<=N->na<=a.size->nb<=b.size->Q (.done (none,na,nb,out,mg,ac,bc)) z'/\Q (.yield (none,na,nb,out,mg,ac,bc)) z')
  (m:MJ (leOf L) a.toList b.toList out.reverse.toList na nb) (g1:0<na) (g2:1<nb) (g3:na+nb<=N) (g4:na<=a.size) (g5:nb<=b.size) :
  wpS M A E s (hiG a b (none,na,nb,out,mg,ac,bc)) Q z:=by
 have key:∀z',Like z z'->∀mg,wpS M A E s (hiA a b na nb out mg ac bc) Q z':=λz' h mg=>zks O T (h.1.trans hk) h0 (hD z' h) (hN z' h) m g1 g2 g3 g4 g5
 unfold hiG;split
 .exact Ag (BK (key _ (by exact Like.refl z) _))
 .exact Ag (BK (key _ (by exact Like.refl z) _))
theorem zko{Q:ForInStep RO -> AM -> Prop}(O:LtOk M A E s kd S L)(T:Two S L a b)(hk:kindOf z=kd)(h0:∀y, b[0]? = some y -> ∀x ∈ a.toList, leOf L y x)(m:MJ (leOf L) a.toList b.toList out.reverse.toList na nb)(g1 : 0 < na)(g2 : 1 < nb)(g3:na + nb <= N)(g4:na <= a.size)(g5:nb <= b.size)
  (hD:∀z',Like z z'->∀r na nb out mg,Res (leOf L) a.toList b.toList r.toList->Q (.done (some r,na,nb,out,mg)) z')
  (hN:∀z',Like z z'->∀na nb out mg,MJ (leOf L) a.toList b.toList out.reverse.toList na nb->0<na->1<nb->na+nb<=N->na<=a.size->nb<=b.size->Q (.yield (none,na,nb,out,mg)) z') :
  wpS M A E s (hiP a b mg (none,na,nb,out,ac,bc)) Q z:=by
 refine Ag (wpS_lift (CO ⟨rfl,?_⟩))
 refine Ag (Ca (Bo (I:=λy c w=>Like z w/\∃na nb out mg ac bc,c=(none,na,nb,out,mg,ac,bc)/\MJ (leOf L) a.toList b.toList out.reverse.toList na nb/\0<na/\1<nb/\na+nb<=N/\na<=a.size/\nb<=b.size)
  (Q:=λc w=>Like z w/\((∃r,c.1=some r/\Res (leOf L) a.toList b.toList r.toList)∨∃na nb out mg ac bc,c=(none,na,nb,out,mg,ac,bc)/\MJ (leOf L) a.toList b.toList out.reverse.toList na nb/\0<na/\1<nb/\na+nb<=N/\na<=a.size/\nb<=b.size)) ?_ ?_ ⟨Like.refl _,_,_,_,_,_,_,rfl,m,g1,g2,g3,g4,g5⟩) ?_)
 .rintro y c w _ hy ⟨lk,na,nb,out,mg,ac,bc,rfl,m,k1,k2,k3,k4,k5⟩;exact zkr O T (lk.1.trans hk) h0 (λw' h r _ _ _ _ _ _ e=>⟨Like.tr lk h,.inl ⟨r,rfl,e⟩⟩) (λw' h _ _ _ _ _ _ e u1 u2 u3 u4 u5=>⟨⟨Like.tr lk h,.inr ⟨_,_,_,_,_,_,rfl,e,u1,u2,u3,u4,u5⟩⟩,Like.tr lk h,_,_,_,_,_,_,rfl,e,u1,u2,u3,u4,u5⟩) m k1 k2 k3 k4 k5
 .rintro c w ⟨lk,r⟩;exact⟨lk,.inr r⟩
 .rintro c w ⟨lk,hc⟩;rcases hc with⟨r,e,res⟩ |⟨na,nb,out,mg,ac,bc,rfl,m,k1,k2,k3,k4,k5⟩
  .rw[e];exact Ao (hD w lk _ _ _ _ _ res)
  .exact Ag (BK (Ao (hN _ (by exact lk) _ _ _ _ m k1 k2 k3 k4 k5)))
theorem zkp{Q:ForInStep RO -> AM -> Prop}(O:LtOk M A E s kd S L)(T:Two S L a b)(hk:kindOf z=kd)(h0:∀y, b[0]? = some y -> ∀x ∈ a.toList, leOf L y x)(m:MJ (leOf L) a.toList b.toList out.reverse.toList na nb)(g1 : 0 < na)(g2 : 1 < nb)(g3:na + nb <= a.size + b.size)(g4:na <= a.size)(g5:nb <= b.size)
  (hD:∀z',Like z z'->∀r na nb out mg,Res (leOf L) a.toList b.toList r.toList->Q (.done (some r,na,nb,out,mg)) z')
  (hN:∀z',Like z z'->∀na' nb' out mg,MJ (leOf L) a.toList b.toList out.reverse.toList na' nb'->0<na'->1<nb'->na'+nb'+1<=na+nb->na'<=a.size->nb'<=b.size->Q (.yield (none,na',nb',out,mg)) z') :
  wpS M A E s (hiO a b (none,na,nb,out,mg)) Q z:=by
 refine Ag (Ca (Bo (I:=λy c w=>w=z/\∃na' nb' out ac bc,c=(none,na',nb',out,ac,bc)/\MJ (leOf L) a.toList b.toList out.reverse.toList na' nb'/\0<na'/\1<nb'/\na'+nb'+y<=na+nb/\na'<=a.size/\nb'<=b.size)
  (Q:=λc w=>w=z/\((∃r,c.1=some r/\Res (leOf L) a.toList b.toList r.toList)∨∃na' nb' out ac bc,c=(none,na',nb',out,ac,bc)/\MJ (leOf L) a.toList b.toList out.reverse.toList na' nb'/\0<na'/\1<nb'/\na'+nb'+1<=na+nb/\na'<=a.size/\nb'<=b.size)) ?_ ?_ ⟨rfl,_,_,_,_,_,rfl,m,g1,g2,by lia,g4,g5⟩) ?_)
 .rintro y c w _ hy ⟨rfl,na',nb',out',ac,bc,rfl,m',j1,j2,j3,j4,j5⟩;exact zkq O T hk h0 m' j1 j2 j4 j5 (λr _ _ _ _ _ e=>⟨rfl,.inl ⟨r,rfl,e⟩⟩) λ_ _ _ _ _ e u1 u2 u3 u4 u5=>⟨⟨rfl,.inr ⟨_,_,_,_,_,rfl,e,u1,u2,by lia,u4,u5⟩⟩,rfl,_,_,_,_,_,rfl,e,u1,u2,by lia,u4,u5⟩
 .rintro c w ⟨rfl,na',nb',out',ac,bc,rfl,m',j1,j2,j3,j4,j5⟩;exact⟨rfl,.inr ⟨na',nb',out',ac,bc,rfl,m',j1,j2,by lia,j4,j5⟩⟩
 .rintro c w ⟨rfl,hc⟩;rcases hc with⟨r,e,res⟩ |⟨na',nb',out',ac,bc,rfl,m',j1,j2,j3,j4,j5⟩
  .unfold hiP;rw[e];exact Ao (hD _ (Like.refl _) _ _ _ _ _ res)
  .exact zko (N:=na'+nb') O T hk h0 m' j1 j2 (Ai _) j4 j5 hD λz' h _ _ _ _ e u1 u2 u3 u4 u5=>hN z' h _ _ _ _ e u1 u2 (by lia) u4 u5
end
section
variable {M:Model}{A:AQ}{E:Value->Ab->Prop}{s:Ab}{kd:Ct}{S:Keyed->Prop}{L:Keyed->Keyed->Bool}{a b:Array Keyed}
theorem zgp(O:LtOk M A E s kd S L)(T:Two S L a b){st:AM}{Q:Array Keyed -> AM -> Prop}(hk:kindOf st=kd)(ha : 0 < a.size)(hb : 0 < b.size)(h0:∀y, b[0]? = some y -> ∀x ∈ a.toList, leOf L y x)
  (hl:∀z,a[a.size-1]?=some z->∀x∈b.toList,leOf L x z) (hQ:∀r st',Res (leOf L) a.toList b.toList r.toList->Like st st'->Q r st'):wpS M A E s (zfx a b) Q st:=by
 rw[zij];have atA:∀i,i<a.size->∃x,a[i]?=some x:=λi h=>⟨a[i],by simp[h]⟩
 have atB:∀i,i<b.size->∃x,b[i]?=some x:=λi h=>⟨b[i],by simp[h]⟩
 obtain⟨a1,e1⟩:=atA (a.size-1) (by lia);have mS:MJ (leOf L) a.toList b.toList (#[]:Array Keyed).reverse.toList a.size b.size:=⟨by simp,by simp,by rw[Ba (by simp),Ba (by simp)];simp,by simp,(λ_ _ _ h=>by simp at h),(λ_ _ _ h=>by simp at h)⟩
 have m0:MJ (leOf L) a.toList b.toList (#[a1]:Array Keyed).reverse.toList (a.size-1) b.size:=by
  have hc:=zef e1;rw[show a.size-1+1=a.size by lia]at hc
  have:=mS.takeA T.sa (a.size-1) (by lia) λx hx y hy=>by rw[hc]at hy;rw[Ah.mp hy];exact hl a1 e1 x (BB hx)
  rw[hc]at this;simpa using this
 refine Ag (wpS_lift (CO ⟨rfl,?_⟩));refine Ag (zax e1 ?_)
 by_cases ha1:a.size-1=0
 .rw[if_pos (by simp[ha1])];rw[ha1]at m0;rw[ha1];exact Ao (hQ _ _ (end_A T m0) (Like.refl _))
 rw[if_neg (by simp[ha1])]
 by_cases hb1:b.size=1
 .rw[if_pos (by simp[hb1])];rw[hb1]at m0;rw[hb1];exact Ao (hQ _ _ (end_B T h0 m0) (Like.refl _))
 rw[if_neg (by simp[hb1])];refine Ag (Dw ?_)
 refine Ag (Ca (Bo (I:=λx c st'=>Like st st'/\∃na nb out mg,c=(none,na,nb,out,mg)/\MJ (leOf L) a.toList b.toList out.reverse.toList na nb/\0<na/\1<nb/\na+nb+x+1<=a.size+b.size/\na<=a.size/\nb<=b.size)
  (Q:=λc st'=>Like st st'/\∃r,c.1=some r/\Res (leOf L) a.toList b.toList r.toList) ?step ?fin ⟨Like.refl _,_,_,_,_,rfl,m0,by lia,by lia,by lia,by lia,by lia⟩) ?post)
 case fin =>
  rintro c st' ⟨_,na,nb,out,mg,rfl,m,g1,g2,g3,g4,g5⟩;exact absurd g3 (by lia)
 case post =>
  rintro c st' ⟨lk,r,e,res⟩;rw[e];exact Ao (hQ r st' res lk)
 case step =>
  rintro x c st' _ hx ⟨lk,na,nb,out,mg,rfl,m,g1,g2,g3,g4,g5⟩;exact zkp O T (lk.1.trans hk) h0 m g1 g2 (by lia) g4 g5 (λz' h r _ _ _ _ e=>⟨Like.tr lk h,r,rfl,e⟩) λz' h _ _ _ _ e u1 u2 u3 u4 u5=>⟨Like.tr lk h,_,_,_,_,rfl,e,u1,u2,by lia,u4,u5⟩
end
end TS
namespace TS
open PySem PyProof.Rows
section
variable {M:Model}{A:AQ}{E:Value->Ab->Prop}{s:Ab}{kd:Ct}{S:Keyed->Prop}{L:Keyed->Keyed->Bool}
noncomputable def Seg(L:Keyed->Keyed->Bool)(a:Array Keyed)(lo n:Nat):Prop:=∀(i j:Nat) x y,i<=j->j<n->a[lo+i]?=some x->a[lo+j]?=some y->L y x=false
noncomputable def Rev(L:Keyed->Keyed->Bool)(a:Array Keyed)(lo n:Nat):Prop:=∀(i j:Nat) x y,i<=j->j<n->a[lo+i]?=some x->a[lo+j]?=some y->L x y=false
structure SB (kd:Ct) (S:Keyed->Prop) (st0 st:AM) (lo hi:Nat):Prop where
 kind:kindOf st=kd
 pend:AO st=AO st0
 fail:Cg st=Cg st0
 perm:(Aq st).Perm (Aq st0)
 out:∀k:Nat,k<lo∨hi<=k->(Aq st)[k]?=(Aq st0)[k]?
 all:∀(k:Nat) x,(Aq st)[k]?=some x->S x
theorem SB.size{st0 st:AM}{lo hi:Nat}(h:SB kd S st0 st lo hi):(Aq st).size=(Aq st0).size:=h.perm.size_eq
theorem zeJ(O:LtOk M A E s kd S L){st:AM}{i j:Nat}{x y:Keyed}{Q:Option Bool->AM->Prop}(hk:kindOf st=kd)(hi:(Aq st)[i]?=some x)(hj:(Aq st)[j]?=some y)(sx:S x)(sy:S y)(q:Q (some (L x y)) st):wpS M A E s (ltAt' i j) Q st:=by rw[ltAt'_eq];refine Ag (Dw ?_);refine Ag (zax hi ?_);refine Ag (zax hj ?_);exact O.lt x y sx sy st Q hk q
theorem zbj{st:AM}{i:Nat}(h:i<(Aq st).size):∃x,(Aq st)[i]?=some x:=⟨(Aq st)[i],by simp[h]⟩
theorem Seg.more(O:LtOk M A E s kd S L){a:Array Keyed}{lo n:Nat}{x y:Keyed}(hS:∀(k:Nat) x,a[k]?=some x->S x)(h:Seg L a lo (n+1))(hx:a[lo+n]?=some x)(hy:a[lo+(n+1)]?=some y)(hl:L y x=false):Seg L a lo (n+2):=by
 intro i j u v hij hj hu hv;rcases A8 j (n+1) with q |q
 .exact h i j u v hij q hu hv
 .have ej:j=n+1:=by lia
  subst ej;rw[hy]at hv
  cases hv
  rcases A8 i (n+1) with q2 |q2
  .have h1:=h i n u x (by lia) (by lia) hu hx;exact O.tr u x y (hS _ _ hu) (hS _ _ hx) (hS _ _ hy) h1 hl
  .have ei:i=n+1:=by lia
   subst ei;rw[hy]at hu
   cases hu
   exact O.rf (hS _ _ hy)
noncomputable def Blk(L:Keyed->Keyed->Bool)(a:Array Keyed)(lo n q:Nat):Prop:=∀(i j:Nat) x y,n-(q+1)<=i->i<n->n-(q+1)<=j->j<n->a[lo+i]?=some x->a[lo+j]?=some y->L x y=false
theorem SB.refl{st:AM}{lo hi:Nat}(hk:kindOf st=kd)(hS:∀(k:Nat) x,(Aq st)[k]?=some x->S x):SB kd S st st lo hi:=⟨hk,rfl,rfl,Array.Perm.refl _,λ_ _=>rfl,hS⟩
theorem SB.mir{st0 st:AM}{lo hi i j:Nat}(h:SB kd S st0 st lo hi)(h1:lo<=i)(h2:j<=hi)(hz:j<=(Aq st).size):SB kd S st0 (setArr st (mirror (Aq st) i j ((j-i) / 2))) lo hi:=by
 refine⟨h.kind,h.pend,h.fail,(mirror_perm _ _ _ _).trans h.perm,λk hk=>?_,λk x hx=>?_⟩
 .show (mirror (Aq st) i j ((j-i) / 2))[k]?=_;rw[BH hz,if_neg (by lia)];exact h.out k hk
 .have hx':(mirror (Aq st) i j ((j-i) / 2))[k]?=some x:=hx;rw[BH hz]at hx';split at hx'
  .exact h.all _ x hx'
  .exact h.all _ x hx'
theorem Rev.blk{a:Array Keyed}{lo n q:Nat}(h:Rev L a lo n)(hb:Blk L a lo n q)(hq:q<n)(hz:lo+n<=a.size):Rev L (mirror a (lo+n-(q+1)) (lo+n) ((lo+n-(lo+n-(q+1))) / 2)) lo n:=by
 intro i j x y hij hj hx hy;rw[BH hz]at hx hy
 by_cases hi:lo+n-(q+1)<=lo+i/\lo+i<lo+n
 .rw[if_pos hi]at hx;rw[if_pos (by lia)]at hy;rw[show lo+n-(q+1)+(lo+n)-1-(lo+i)=lo+(n-(q+1)+n-1-i) by lia]at hx;rw[show lo+n-(q+1)+(lo+n)-1-(lo+j)=lo+(n-(q+1)+n-1-j) by lia]at hy;exact hb _ _ x y (by lia) (by lia) (by lia) (by lia) hx hy
 .rw[if_neg hi]at hx
  by_cases hj':lo+n-(q+1)<=lo+j/\lo+j<lo+n
  .rw[if_pos hj']at hy;rw[show lo+n-(q+1)+(lo+n)-1-(lo+j)=lo+(n-(q+1)+n-1-j) by lia]at hy;exact h i _ x y (by lia) (by lia) hx hy
  .rw[if_neg hj']at hy;exact h i j x y hij hj hx hy
theorem Rev.flip{a:Array Keyed}{lo n:Nat}(h:Rev L a lo n)(hz:lo+n<=a.size):Seg L (mirror a lo (lo+n) ((lo+n-lo) / 2)) lo n:=by intro i j x y hij hj hx hy;rw[BH hz,if_pos (by lia)]at hx hy;rw[show lo+(lo+n)-1-(lo+i)=lo+(n-1-i) by lia]at hx;rw[show lo+(lo+n)-1-(lo+j)=lo+(n-1-j) by lia]at hy;exact h _ _ y x (by lia) (by lia) hy hx
theorem Rev.more(O:LtOk M A E s kd S L){a:Array Keyed}{lo n:Nat}{x y:Keyed}(hS:∀(k:Nat) x,a[k]?=some x->S x)(h:Rev L a lo (n+1))(hx:a[lo+n]?=some x)(hy:a[lo+(n+1)]?=some y)(hl:L x y=false):Rev L a lo (n+2):=by
 intro i j u v hij hj hu hv;rcases A8 j (n+1) with q |q
 .exact h i j u v hij q hu hv
 .have ej:j=n+1:=by lia
  subst ej;rw[hy]at hv
  cases hv
  rcases A8 i (n+1) with q2 |q2
  .have h1:=h i n u x (by lia) (by lia) hu hx;exact O.tr y x u (hS _ _ hy) (hS _ _ hx) (hS _ _ hu) hl h1
  .have ei:i=n+1:=by lia
   subst ei;rw[hy]at hu
   cases hu
   exact O.rf (hS _ _ hy)
theorem Blk.more(O:LtOk M A E s kd S L){a:Array Keyed}{lo n q:Nat}{x y:Keyed}(hS:∀(k:Nat) x,a[k]?=some x->S x)(h:Blk L a lo (n+1) q)(hq:q<n+1)(hx:a[lo+n]?=some x)(hy:a[lo+(n+1)]?=some y)(h1:L x y=false)(h2:L y x=false):Blk L a lo (n+2) (q+1):=by
 have old:∀(i:Nat) u,n+1-(q+1)<=i->i<n+1->a[lo+i]?=some u->L u y=false/\L y u=false:=λi u a1 a2 hu=>by have e1:=h i n u x a1 a2 (by lia) (by lia) hu hx;have e2:=h n i x u (by lia) (by lia) a1 a2 hx hu;exact⟨O.tr y x u (hS _ _ hy) (hS _ _ hx) (hS _ _ hu) h1 e1,O.tr u x y (hS _ _ hu) (hS _ _ hx) (hS _ _ hy) e2 h2⟩
 intro i j u v a1 a2 b1 b2 hu hv;rcases A8 i (n+1) with ci |ci
 .rcases A8 j (n+1) with cj |cj
  .exact h i j u v (by lia) ci (by lia) cj hu hv
  .have ej:j=n+1:=by lia
   subst ej;rw[hy]at hv;cases hv;exact (old i u (by lia) ci hu).1
 .have ei:i=n+1:=by lia
  subst ei;rw[hy]at hu;cases hu;rcases A8 j (n+1) with cj |cj
  .exact (old j v (by lia) cj hv).2
  .have ej:j=n+1:=by lia
   subst ej;rw[hy]at hv;cases hv;exact O.rf (hS _ _ hy)
theorem Blk.one(O:LtOk M A E s kd S L){a:Array Keyed}{lo n:Nat}(hS:∀(k:Nat) x,a[k]?=some x->S x):Blk L a lo (n+1) 0:=λi j x y a1 a2 b1 b2 hx hy=>by
 have ei:i=n:=by lia
 have ej:j=n:=by lia
 subst ei;subst ej;rw[hx]at hy;cases hy;exact O.rf (hS _ _ hx)
theorem zfZ{B:Prop}{D:AM->Prop}(C:AM->Prop)(g:(∀st,D st->C st)->B)(h:∀st,D st->C st):B:=g h
theorem zfM (O : LtOk M A E s kd S L){st : AM}{lo nrem : Nat}{Q : Option Nat → AM → Prop}(h1 : 1 ≤ nrem) (hz : lo + nrem ≤ (Aq st).size) (hk : kindOf st = kd) (hS : ∀ (k : Nat) x, (Aq st)[k]? = some x → S x)
    (hQ:∀ m st',SB kd S st st' lo (lo+nrem)→1≤m→m≤nrem→Seg L (Aq st') lo m→Q (some m) st'):wpS M A E s (countRun' lo nrem) Q st:=by
  rw[countRun'_eq]
  refine Ag (Ca (Bo (I:=λx c st'=>c=(none,x)∧st'=st∧x≤nrem∧Seg L (Aq st) lo x)
    (Q:=λc st'=>∃ m,c=(none,m)∧st'=st∧1≤m∧m≤nrem∧Seg L (Aq st) lo m∧(m<nrem→∃ x y,(Aq st)[lo+m]?=some x∧(Aq st)[lo+m - 1]?=some y∧L x y=true)) ?step ?fin ?init) ?post)
  case init =>
    refine⟨rfl,rfl,h1,λi j x y hij hj hx hy=>?_⟩
    have ei:i=0:=by lia
    have ej:j=0:=by lia
    subst ei;subst ej
    rw[hx] at hy
    cases hy
    exact O.rf (hS _ _ hx)
  case fin =>
    rintro c st' ⟨rfl,rfl,hle,hsg⟩
    exact⟨_,rfl,rfl,by lia,hle,hsg,λh=>absurd h (by lia)⟩
  case step =>
    rintro n c st' hn1 hn2 ⟨rfl,rfl,hle,hsg⟩
    obtain⟨x,hx⟩:=zbj (st:=st') (i:=lo+n) (by lia)
    obtain⟨y,hy⟩:=zbj (st:=st') (i:=lo+n - 1) (by lia)
    refine Ag (zeJ O hk hx hy (hS _ _ hx) (hS _ _ hy) ?_)
    dsimp only
    by_cases hl:L x y=true
    . rw[if_pos hl]
      exact Ao ⟨n,rfl,rfl,hn1,hle,hsg,λ_=>⟨x,y,hx,hy,hl⟩⟩
    . rw[if_neg hl]
      refine Ao ⟨rfl,rfl,hn2,?_⟩
      obtain⟨p,rfl⟩:∃ p,n=p+1:=⟨n - 1,by lia⟩
      exact hsg.more O hS (by rw[show lo+(p+1) - 1=lo+p by lia] at hy;exact hy) hx (by simpa using hl)
  case post =>
    rintro c st' ⟨m,rfl,rfl,hm1,hm2,hsg,hnx⟩
    dsimp only
    by_cases hmn:(m == nrem)=true
    . rw[if_pos hmn]
      exact Ao (hQ m st' (SB.refl hk hS) hm1 hm2 hsg)
    . rw[if_neg hmn]
      have hlt : m < nrem := by have : m ≠ nrem := by simpa using hmn
                                lia
      obtain⟨x0,y0,hx0,hy0,hl0⟩:=hnx hlt
      refine zfZ (D:=λst1=>SB kd S st' st1 lo (lo+nrem)∧Rev L (Aq st1) lo m∧(∃ x y,(Aq st1)[lo+m]?=some x∧(Aq st1)[lo+m - 1]?=some y∧L y x=false)) ?C (λshare=>?g) ?h
      case g =>
        by_cases hm:m > 1
        . rw[if_pos hm]
          obtain⟨a,ha⟩:=zbj (st:=st') (i:=lo) (by lia)
          obtain⟨b,hb⟩:=zbj (st:=st') (i:=lo+m - 1) (by lia)
          refine Ag (zeJ O hk ha hb (hS _ _ ha) (hS _ _ hb) ?_)
          dsimp only
          by_cases hr:L a b=true
          . rw[if_pos hr]
            exact Ao (hQ m st' (SB.refl hk hS) hm1 hm2 hsg)
          . rw[if_neg hr]
            have hr':L a b=false:=by simpa using hr
            rw[reverseSlice'_eq]
            refine Ag (BK ?_)
            have hz2:lo+m≤(Aq st').size:=by lia
            have hb':(Aq st')[lo+(m - 1)]?=some b:=by rw[show lo+(m - 1)=lo+m - 1 by lia];exact hb
            have eqv:Rev L (Aq st') lo m:=λi j x y hij hj hx hy=>by
              have e1:=hsg 0 j a y (by lia) hj (by simpa using ha) hy
              have e2:=hsg i (m - 1) x b (by lia) (by lia) hx hb'
              have e3:=O.tr x b a (hS _ _ hx) (hS _ _ hb) (hS _ _ ha) e2 hr'
              have e4:=hsg j (m - 1) y b (by lia) (by lia) hy hb'
              have e5:=hsg 0 i a x (by lia) (by lia) (by simpa using ha) hx
              exact O.tr y b x (hS _ _ hy) (hS _ _ hb) (hS _ _ hx) e4 (O.tr b a x (hS _ _ hb) (hS _ _ ha) (hS _ _ hx) hr' e5)
            have rv2:Rev L (mirror (Aq st') lo (lo+m) ((lo+m - lo) / 2)) lo m:=λi j x y hij hj hx hy=>by
              rw[BH hz2,if_pos (by lia)] at hx hy
              rw[show lo+(lo+m) - 1 - (lo+i)=lo+(m - 1 - i) by lia] at hx
              rw[show lo+(lo+m) - 1 - (lo+j)=lo+(m - 1 - j) by lia] at hy
              exact hsg _ _ y x (by lia) (by lia) hy hx
            refine share _ ⟨(SB.refl hk hS).mir (Ai _) (by lia) hz2,rv2,x0,a,?_,?_,?_⟩
            . show (mirror (Aq st') lo (lo+m) ((lo+m - lo) / 2))[lo+m]?=_
              rw[BH hz2,if_neg (by lia)];exact hx0
            . show (mirror (Aq st') lo (lo+m) ((lo+m - lo) / 2))[lo+m - 1]?=_
              rw[BH hz2,if_pos (by lia),show lo+(lo+m) - 1 - (lo+m - 1)=lo by lia];exact ha
            . have eb:b=y0:=by rw[hb] at hy0;exact AW hy0
              subst eb
              exact O.tr x0 b a (hS _ _ hx0) (hS _ _ hb) (hS _ _ ha) (O.as x0 b (hS _ _ hx0) (hS _ _ hb) hl0) hr'
        . rw[if_neg hm]
          have em:m=1:=by lia
          subst em
          refine share _ ⟨SB.refl hk hS,λi j x y hij hj hx hy=>?_,x0,y0,hx0,hy0,O.as x0 y0 (hS _ _ hx0) (hS _ _ hy0) hl0⟩
          have ei:i=0:=by lia
          have ej:j=0:=by lia
          subst ei;subst ej
          rw[hx] at hy;cases hy
          exact O.rf (hS _ _ hx)
      case h =>
        rintro st1 ⟨sb1,rv1,x1,y1,hx1,hy1,hl1⟩
        have hz1:lo+nrem≤(Aq st1).size:=by rw[sb1.size];exact hz
        refine Ag (wpS_lift (CO ⟨rfl,?_⟩))
        obtain⟨p,rfl⟩:∃ p,m=p+1:=⟨m - 1,by lia⟩
        rw[show lo+(p+1) - 1=lo+p by lia] at hy1
        have rv2:Rev L (Aq st1) lo (p+1+1):=rv1.more O sb1.all hy1 hx1 hl1
        refine Ag (Ca (Bo (I:=λx c st2=>∃ q,c=(none,x,q)∧SB kd S st' st2 lo (lo+nrem)∧1≤x∧x≤nrem∧q<x∧Rev L (Aq st2) lo x∧Blk L (Aq st2) lo x q)
          (Q:=λc st2=>∃ x q,c=(none,x,q)∧SB kd S st' st2 lo (lo+nrem)∧1≤x∧x≤nrem∧q<x∧Rev L (Aq st2) lo x∧Blk L (Aq st2) lo x q) ?step ?fin ⟨0,rfl,sb1,by lia,by lia,by lia,rv2,Blk.one O sb1.all⟩) ?post)
        case fin =>
          rintro c st2 ⟨q,rfl,hh⟩
          exact⟨_,q,rfl,hh⟩
        case step =>
          rintro x c st2 hx1' hx2 ⟨q,rfl,sb2,hn1,hn2,hq,rv,bk⟩
          have hz2:lo+nrem≤(Aq st2).size:=by rw[sb2.size];exact hz
          obtain⟨u,hu⟩:=zbj (st:=st2) (i:=lo+x) (by lia)
          obtain⟨v,hv⟩:=zbj (st:=st2) (i:=lo+x - 1) (by lia)
          obtain⟨r,rfl⟩:∃ r,x=r+1:=⟨x - 1,by lia⟩
          rw[show lo+(r+1) - 1=lo+r by lia] at hv
          refine Ag (zeJ O sb2.kind hu (by rw[show lo+(r+1) - 1=lo+r by lia];exact hv) (sb2.all _ _ hu) (sb2.all _ _ hv) ?_)
          dsimp only
          by_cases hl:L u v=true
          . rw[if_pos hl]
            have hvu:=O.as u v (sb2.all _ _ hu) (sb2.all _ _ hv) hl
            by_cases hq0:q > 0
            . rw[if_pos hq0,reverseSlice'_eq]
              refine Ag (BK ?_)
              have hzr:lo+(r+1)≤(Aq st2).size:=by lia
              have sb3:=sb2.mir (i:=lo+(r+1) - (q+1)) (j:=lo+(r+1)) (by lia) (by lia) hzr
              have rv3:=rv.blk bk hq hzr
              refine Ao ⟨0,rfl,sb3,by lia,by lia,by lia,?_,Blk.one O sb3.all⟩
              have hz3:r<r+1:=by lia
              obtain⟨v2,hv2⟩:=zbj (st:=setArr st2 (mirror (Aq st2) (lo+(r+1) - (q+1)) (lo+(r+1)) ((lo+(r+1) - (lo+(r+1) - (q+1))) / 2))) (i:=lo+r) (by show lo+r<(mirror (Aq st2) _ _ _).size;rw[mirror_size];lia)
              have hv2':(Aq st2)[lo+(r+1 - (q+1)+r - r)]?=some v2:=by
                have h0:(mirror (Aq st2) (lo+(r+1) - (q+1)) (lo+(r+1)) ((lo+(r+1) - (lo+(r+1) - (q+1))) / 2))[lo+r]?=some v2:=hv2
                rw[BH hzr,if_pos (by lia),show lo+(r+1) - (q+1)+(lo+(r+1)) - 1 - (lo+r)=lo+(r+1 - (q+1)+r - r) by lia] at h0
                exact h0
              refine rv3.more O sb3.all hv2 (y:=u) ?_ ?_
              . show (mirror (Aq st2) (lo+(r+1) - (q+1)) (lo+(r+1)) ((lo+(r+1) - (lo+(r+1) - (q+1))) / 2))[lo+(r+1)]?=some u
                rw[BH hzr,if_neg (by lia)];exact hu
              . exact O.tr u v v2 (sb2.all _ _ hu) (sb2.all _ _ hv) (sb2.all _ _ hv2') hvu (rv _ r v2 v (by lia) (by lia) hv2' hv)
            . rw[if_neg hq0]
              exact Ao ⟨0,rfl,sb2,by lia,by lia,by lia,rv.more O sb2.all hv hu hvu,Blk.one O sb2.all⟩
          . rw[if_neg hl]
            have hl':L u v=false:=by simpa using hl
            refine Ag (zeJ O sb2.kind (by rw[show lo+(r+1) - 1=lo+r by lia];exact hv) hu (sb2.all _ _ hv) (sb2.all _ _ hu) ?_)
            dsimp only
            by_cases hg:L v u=true
            . rw[if_pos hg]
              exact Ao ⟨r+1,q,rfl,sb2,hn1,hn2,hq,rv,bk⟩
            . rw[if_neg hg]
              have hg':L v u=false:=by simpa using hg
              exact Ao ⟨q+1,rfl,sb2,by lia,by lia,by lia,rv.more O sb2.all hv hu hg',bk.more O sb2.all hq hv hu hg' hl'⟩
        case post =>
          rintro c st2 ⟨x,q,rfl,sb2,hx1',hx2,hq,rv,bk⟩
          dsimp only
          have hz2:lo+nrem≤(Aq st2).size:=by rw[sb2.size];exact hz
          refine zfZ (D:=λst3=>SB kd S st' st3 lo (lo+nrem)∧Rev L (Aq st3) lo x) ?C2 (λshare=>?g2) ?h2
          case g2 =>
            by_cases hq0:q > 0
            . rw[if_pos hq0,reverseSlice'_eq]
              refine Ag (BK ?_)
              exact share _ ⟨sb2.mir (by lia) (by lia) (by lia),rv.blk bk hq (by lia)⟩
            . rw[if_neg hq0]
              exact share _ ⟨sb2,rv⟩
          case h2 =>
            rintro st3 ⟨sb3,rv3⟩
            have hz3:lo+nrem≤(Aq st3).size:=by rw[sb3.size];exact hz
            rw[reverseSlice'_eq]
            refine Ag (BK ?_)
            have sb4:=sb3.mir (i:=lo) (j:=lo+x) (Ai _) (by lia) (by lia)
            have sg4:=rv3.flip (show lo+x≤(Aq st3).size by lia)
            have sg5:Seg L (Aq (setArr st3 (mirror (Aq st3) lo (lo+x) ((lo+x - lo) / 2)))) lo x:=sg4
            generalize setArr st3 (mirror (Aq st3) lo (lo+x) ((lo+x - lo) / 2))=st4 at sb4 sg5
            have hz4:lo+nrem≤(Aq st4).size:=by rw[sb4.size];exact hz
            refine Ag (Ca (Bo (I:=λn c st5=>c=(none,n)∧st5=st4∧n≤nrem∧Seg L (Aq st4) lo n) (Q:=λc st5=>∃ m,c=(none,m)∧st5=st4∧1≤m∧m≤nrem∧Seg L (Aq st4) lo m) ?step ?fin ⟨rfl,rfl,hx2,sg5⟩) ?post)
            case fin =>
              rintro c st5 ⟨rfl,rfl,hle,hsg⟩
              exact⟨_,rfl,rfl,by lia,hle,hsg⟩
            case step =>
              rintro n c st5 hn1 hn2 ⟨rfl,rfl,hle,hsg⟩
              obtain⟨u,hu⟩:=zbj (st:=st5) (i:=lo+n) (by lia)
              obtain⟨v,hv⟩:=zbj (st:=st5) (i:=lo+n - 1) (by lia)
              refine Ag (zeJ O sb4.kind hu hv (sb4.all _ _ hu) (sb4.all _ _ hv) ?_)
              dsimp only
              by_cases hl:L u v=true
              . rw[if_pos hl]
                exact Ao ⟨n,rfl,rfl,by lia,hle,hsg⟩
              . rw[if_neg hl]
                refine Ao ⟨rfl,rfl,hn2,?_⟩
                obtain⟨p,rfl⟩:∃ p,n=p+1:=⟨n - 1,by lia⟩
                exact hsg.more O sb4.all (by rw[show lo+(p+1) - 1=lo+p by lia] at hv;exact hv) hu (by simpa using hl)
            case post =>
              rintro c st5 ⟨n,rfl,rfl,h1n,hn2,hsg⟩
              exact Ao (hQ n st5 sb4 h1n hn2 hsg)
end
end TS
namespace TS
open PySem PyProof.Rows
section
variable {M:Model}{A:AQ}{E:Value->Ab->Prop}{s:Ab}{kd:Ct}{S:Keyed->Prop}{L:Keyed->Keyed->Bool}
theorem SB.bub{st0 st:AM}{lo hi i d:Nat}(h:SB kd S st0 st lo hi)(h1:lo<=i-d)(hd:d<=i)(h2:i<hi)(hz:i<(Aq st).size):SB kd S st0 (setArr st (bubble (Aq st) i d)) lo hi:=by
 refine⟨h.kind,h.pend,h.fail,(bubble_perm _ _ _).trans h.perm,λk hk=>?_,λk x hx=>?_⟩
 .show (bubble (Aq st) i d)[k]?=_;rw[getElem?_bubble hz _ hd,if_neg (by lia),if_neg (by lia)];exact h.out k hk
 .have hx':(bubble (Aq st) i d)[k]?=some x:=hx;rw[getElem?_bubble hz _ hd]at hx';split at hx'
  .exact h.all _ x hx'
  .split at hx'
   .exact h.all _ x hx'
   .exact h.all _ x hx'
theorem Seg.ins(O:LtOk M A E s kd S L){a:Array Keyed}{lo k l:Nat}{p:Keyed}(hS:∀(k:Nat) x, a[k]? = some x -> S x)(h:Seg L a lo k)(hlk:l <= k)(hz:lo + k < a.size)(hp:a[lo + k]? = some p)
  (h1:∀(i:Nat) x,i<l->a[lo+i]?=some x->L p x=false) (h2:∀(i:Nat) x,l<=i->i<k->a[lo+i]?=some x->L p x=true):Seg L (bubble a (lo+k) (lo+k-(lo+l))) lo (k+1):=by
 have at':∀(i:Nat) x,i<k+1->(bubble a (lo+k) (lo+k-(lo+l)))[lo+i]?=some x->(i<l/\a[lo+i]?=some x)∨(i=l/\x=p)∨(l<i/\a[lo+(i-1)]?=some x):=λi x hi hx=>by
  rw[getElem?_bubble hz _ (by lia)]at hx
  by_cases e:lo+i=lo+k-(lo+k-(lo+l))
  .rw[if_pos e,hp]at hx;exact .inr (.inl ⟨by lia,(AW hx).symm⟩)
  .rw[if_neg e]at hx
   by_cases e2:lo+k-(lo+k-(lo+l))<lo+i/\lo+i<=lo+k
   .rw[if_pos e2,show lo+i-1=lo+(i-1) by lia]at hx;exact .inr (.inr ⟨by lia,hx⟩)
   .rw[if_neg e2]at hx;exact .inl ⟨by lia,hx⟩
 intro i j x y hij hj hx hy;have sp:=hS _ _ hp;rcases at' i x (by lia) hx with⟨a1,a2⟩ |⟨a1,a2⟩ |⟨a1,a2⟩
 .rcases at' j y hj hy with⟨b1,b2⟩ |⟨b1,b2⟩ |⟨b1,b2⟩
  .exact h i j x y hij (by lia) a2 b2
  .rw[b2];exact h1 i x a1 a2
  .exact h i (j-1) x y (by lia) (by lia) a2 b2
 .subst a2;rcases at' j y hj hy with⟨b1,b2⟩ |⟨b1,b2⟩ |⟨b1,b2⟩
  .lia
  .rw[b2];exact O.rf sp
  .exact O.as x y sp (hS _ _ b2) (h2 (j-1) y (by lia) (by lia) b2)
 .rcases at' j y hj hy with⟨b1,b2⟩ |⟨b1,b2⟩ |⟨b1,b2⟩
  .lia
  .lia
  .exact h (i-1) (j-1) x y (by lia) (by lia) a2 b2
theorem zej(O:LtOk M A E s kd S L){st:AM}{lo n ok:Nat}{Q:Bool -> AM -> Prop}(hok : 1 <= ok)(hn:ok <= n)(hz:lo + n <= (Aq st).size)(hk:kindOf st=kd)(hS:∀(k:Nat) x, (Aq st)[k]? = some x -> S x)(hs:Seg L (Aq st) lo ok)
  (hQ:∀st',SB kd S st st' lo (lo+n)->Seg L (Aq st') lo n->Q true st'):wpS M A E s (binarySort' lo n ok) Q st:=by
 rw[binarySort'_eq];have em:max ok 1=ok:=by lia
 rw[em]
 refine Ag (Ca (Bo (I:=λk c st'=>c=(none,())/\SB kd S st st' lo (lo+n)/\k<=n/\Seg L (Aq st') lo k)
  (Q:=λc st'=>c=(none,())/\SB kd S st st' lo (lo+n)/\Seg L (Aq st') lo n) ?step ?fin ⟨rfl,SB.refl hk hS,hn,hs⟩) ?post)
 case post =>
  rintro c st' ⟨rfl,sb,sg⟩;exact Ao (hQ st' sb sg)
 case fin =>
  rintro c st' ⟨rfl,sb,hle,sg⟩;rw[show max ok n=n by lia]at sg;exact⟨rfl,sb,sg⟩
 case step =>
  rintro k c st' hk1 hk2 ⟨rfl,sb,hle,sg⟩;have hz':lo+n<=(Aq st').size:=by rw[sb.size];exact hz
  obtain⟨p,hp⟩:=zbj (st:=st') (i:=lo+k) (by lia);dsimp only
  refine Ag (Ca (Bo (I:=λx c st2=>∃l r,c=(none,l,r)/\st2=st'/\l<=r/\r<=k/\r-l<=k-x/\(∀(i:Nat) z,i<l->(Aq st')[lo+i]?=some z->L p z=false)/\(∀(i:Nat) z,r<=i->i<k->(Aq st')[lo+i]?=some z->L p z=true))
   (Q:=λc st2=>∃l,c=(none,l,l)/\st2=st'/\l<=k/\(∀(i:Nat) z,i<l->(Aq st')[lo+i]?=some z->L p z=false)/\(∀(i:Nat) z,l<=i->i<k->(Aq st')[lo+i]?=some z->L p z=true)) ?step2 ?fin2 ⟨0,k,rfl,rfl,Be _,Ai _,Ai _,(λi z h=>absurd h (Nat.not_lt_zero _)),(λi z h1 h2=>absurd h2 (by lia))⟩) ?post2)
  case fin2 =>
   rintro c st2 ⟨l,r,rfl,rfl,h1,h2,h3,h4,h5⟩;have:l=r:=by lia
   subst this;exact⟨l,rfl,rfl,h2,h4,h5⟩
  case step2 =>
   rintro x c st2 _ hx ⟨l,r,rfl,rfl,h1,h2,h3,h4,h5⟩;dsimp only
   by_cases hlr:l ≥ r
   .rw[if_pos hlr];have:l=r:=by lia
    subst this;exact Ao ⟨l,rfl,rfl,h2,h4,h5⟩
   .rw[if_neg hlr];obtain⟨u,hu⟩:=zbj (st:=st2) (i:=lo+(l+r) / 2) (by lia);refine Ag (zeJ O sb.kind hp hu (sb.all _ _ hp) (sb.all _ _ hu) ?_);dsimp only
    by_cases hl:L p u=true
    .rw[if_pos hl];refine Ao ⟨l,(l+r) / 2,rfl,rfl,by lia,by lia,by lia,h4,λi z a1 a2 hz2=>?_⟩
     cases q:L p z with
     |true=>rfl
     |false =>
      have e1:=sg ((l+r) / 2) i u z a1 a2 hu hz2;have e2:=O.tr u z p (sb.all _ _ hu) (sb.all _ _ hz2) (sb.all _ _ hp) e1 q;rw[hl]at e2;cases e2
    .rw[if_neg hl];have hl':L p u=false:=by simpa using hl
     refine Ao ⟨(l+r) / 2+1,r,rfl,rfl,by lia,by lia,by lia,λi z a1 hz2=>?_,h5⟩;have e1:=sg i ((l+r) / 2) z u (by lia) (by lia) hz2 hu;exact O.tr z u p (sb.all _ _ hz2) (sb.all _ _ hu) (sb.all _ _ hp) e1 hl'
  case post2 =>
   rintro c st2 ⟨l,rfl,rfl,h2,h4,h5⟩;dsimp only;rw[moveDown'_eq];refine Ag (BK (Ao ⟨rfl,sb.bub (by lia) (by lia) (by lia) (by lia),by lia,?_⟩));exact sg.ins O sb.all h2 (by lia) hp h4 h5
end
end TS
set_option maxHeartbeats 8000000
namespace TS
open PySem PyProof.Rows
noncomputable def wr(a:Array Keyed)(o:Nat)(l:List Keyed)(k:Nat):Array Keyed:=(l.zipIdx k).foldl (λa (p:Keyed×Nat)=>a.setIfInBounds (o+p.2) p.1) a
theorem ziv:∀(l:List Keyed) (k:Nat) (a:Array Keyed) (o i:Nat),o+k+l.length<=a.size->(wr a o l k)[i]?=if o+k<=i/\i<o+k+l.length then l[i-(o+k)]? else a[i]?
 |[],k,a,o,i,_=>by
  show a[i]?=_;rw[if_neg (by simp)]
 |x::l,k,a,o,i,hz=>by
  have ih:=ziv l (k+1) (a.setIfInBounds (o+k) x) o i (by rw[Array.size_setIfInBounds];simp at hz;lia);unfold wr at ih ⊢;rw[List.zipIdx_cons,List.foldl_cons,ih];simp only[AS]at hz ⊢
  by_cases h1:o+(k+1)<=i/\i<o+(k+1)+l.length
  .rw[if_pos h1,if_pos (by lia),show i-(o+k)=(i-(o+(k+1)))+1 by lia];rfl
  .rw[if_neg h1]
   by_cases h2:i=o+k
   .subst h2;rw[if_pos (by lia),Nat.sub_self];rw[Array.getElem?_setIfInBounds_self_of_lt (by lia)];rfl
   .rw[if_neg (by lia),Array.getElem?_setIfInBounds_ne (B8 h2)]
theorem zk5{a:Array Keyed}{o:Nat}{l:List Keyed}(hz:o+l.length<=a.size):(wr a o l 0).toList=a.toList.take o++l++a.toList.drop (o+l.length):=by
 apply List.ext_getElem?
 intro i;rw[Bi,ziv l 0 a o i (by simpa using hz)];have h1:(a.toList.take o).length=o:=by rw[AX,AG];lia
 by_cases c1:i<o
 .rw[if_neg (by lia),AC,Ar (by lia),List.getElem?_take,if_pos c1,Bi]
 .by_cases c2:i<o+l.length
  .rw[if_pos (by lia),AC,AJ (by lia),Ar (by lia),h1];rfl
  .rw[if_neg (by lia),AJ (by simp;lia),C0,<- Bi]
   congr 1
   simp;lia
section
variable {M:Model}{A:AQ}{E:Value->Ab->Prop}{s:Ab}{kd:Ct}{S:Keyed->Prop}{L:Keyed->Keyed->Bool}
structure SM (kd:Ct) (S:Keyed->Prop) (L:Keyed->Keyed->Bool) (st0 st:AM) (pd:Array (Nat×Nat×Nat)) (lo n:Nat):Prop where
 kind:kindOf st=kd
 pend:AO st=pd
 fail:Cg st=none
 perm:(Aq st).Perm (Aq st0)
 out:∀k:Nat,k<lo∨lo+n<=k->(Aq st)[k]?=(Aq st0)[k]?
 all:∀(k:Nat) x,(Aq st)[k]?=some x->S x
 seg:Seg L (Aq st) lo n
theorem Seg.glue{a:Array Keyed}(O:LtOk M A E s kd S L){lo n m:Nat}(hS:∀(k:Nat) x,a[k]?=some x->S x)(h1:Seg L a lo n)(h2:Seg L a (lo+n) m)(h:∀x y,a[lo+(n-1)]?=some x->a[lo+n]?=some y->L y x=false)(hn:0<n)(hz:lo+n+m<=a.size):Seg L a lo (n+m):=by
 intro i j x y hij hj hx hy;rcases A8 j n with cj |cj
 .exact h1 i j x y hij cj hx hy
 .rw[show lo+j=lo+n+(j-n) by lia]at hy;rcases A8 i n with ci |ci
  .have e1:a[lo+(n-1)]?=some a[lo+(n-1)]:=by rw[BP (by lia)]
   have e2:a[lo+n]?=some a[lo+n]:=by rw[BP (by lia)]
   have q1:=h1 i (n-1) x _ (by lia) (by lia) hx e1;have q2:=h _ _ e1 e2;have q3:=h2 0 (j-n) _ y (Be _) (by lia) e2 hy;exact O.tr x _ y (hS _ _ hx) (hS _ _ e1) (hS _ _ hy) q1 (O.tr _ _ y (hS _ _ e1) (hS _ _ e2) (hS _ _ hy) q2 q3)
  .rw[show lo+i=lo+n+(i-n) by lia]at hx;exact h2 (i-n) (j-n) x y (by lia) (by lia) hx hy
theorem zk6{x:AM}{Q:PUnit->AM->Prop}{st:AM}(h:Q ⟨⟩ x):wpS M A E s (set x:StateT AM Sem PUnit) Q st:=by unfold wpS;rw[StateT.run_set];exact An ⟨rfl,h⟩
theorem zfG{a:Array Keyed}{o n i:Nat}(hz:o+n<=a.size):(a.extract o (o+n))[i]?=if i<n then a[o+i]? else none:=by
 rw[Array.getElem?_extract]
 by_cases h:i<n
 .rw[if_pos h,if_pos (by lia)]
 .rw[if_neg h,if_neg (by lia)]
theorem zhy{a:Array Keyed}{o n:Nat}(hz:o+n<=a.size)(h:Seg L a o n):(a.extract o (o+n)).toList.Pairwise (leOf L):=by
 rw[CB];intro i j hi hj hij;rw[AG,Cb]at hi hj;have e1:(a.extract o (o+n))[i]?=some (a.extract o (o+n)).toList[i]:=by rw[<- Bi,Aa]
 have e2:(a.extract o (o+n))[j]?=some (a.extract o (o+n)).toList[j]:=by rw[<- Bi,Aa]
 rw[zfG hz,if_pos (by lia)]at e1 e2;exact h i j _ _ (by lia) (by lia) e1 e2
theorem zdi{a:Array Keyed}{o n:Nat}{x:Keyed}(hz:o+n<=a.size)(h:x∈(a.extract o (o+n)).toList):∃i,i<n/\a[o+i]?=some x:=by
 obtain⟨i,hi,e⟩:=AR h;have e1:(a.extract o (o+n))[i]?=some x:=by rw[<- Bi,Aa hi,e]
 rw[AG,Cb]at hi;refine⟨i,by lia,?_⟩;rw[zfG hz,if_pos (by lia)]at e1;exact e1
theorem SM.write(O:LtOk M A E s kd S L){st0 st:AM}{pd:Array (Nat × Nat × Nat)}{sa na nb k m:Nat}{r:Array Keyed}(hna : 1 <= na)(hk:k < na)(hm0 : 0 < m)(hm:m <= nb)(hz:sa + na + nb <= (Aq st0).size)(hS:∀(k:Nat) x, (Aq st0)[k]? = some x -> S x)
  (sA:Seg L (Aq st0) sa na) (sB:Seg L (Aq st0) (sa+na) nb) (y0 z0:Keyed) (hy0:(Aq st0)[sa+na]?=some y0) (hz0:(Aq st0)[sa+(na-1)]?=some z0)
  (A1:∀(i:Nat) x,i<k->(Aq st0)[sa+i]?=some x->L y0 x=false) (B2:∀(i:Nat) y,m<=i->i<nb->(Aq st0)[sa+na+i]?=some y->L y z0=false)
  (hr:Res (leOf L) ((Aq st0).extract (sa+k) (sa+k+(na-k))).toList ((Aq st0).extract (sa+na) (sa+na+m)).toList r.toList) (hkd:kindOf st=kd) (hp:AO st=pd) (hf:Cg st=none) (ha:Aq st=wr (Aq st0) (sa+k) r.toList 0) :
  SM kd S L st0 st pd sa (na+nb):=by
 obtain⟨hperm,hpair⟩:=hr
 have hrl:r.toList.length=(na-k)+m:=by rw[hperm.length_eq,Af,AG,AG,Cb,Cb];lia
 have hz2:sa+k+r.toList.length<=(Aq st0).size:=by lia
 have get':∀i:Nat,(Aq st)[i]?=if sa+k<=i/\i<sa+k+r.toList.length then r.toList[i-(sa+k)]? else (Aq st0)[i]?:=λi=>by rw[ha,ziv _ _ _ _ _ (by lia)];simp only[BU]
 have rmem:∀x∈r.toList,(∃i,k<=i/\i<na/\(Aq st0)[sa+i]?=some x)∨(∃i,i<m/\(Aq st0)[sa+na+i]?=some x):=λx hx=>by
  rcases Aj.mp (hperm.mem_iff.mp hx) with q |q
  .obtain⟨i,hi,e⟩:=zdi (by lia) q;exact .inl ⟨k+i,by lia,by lia,by rw[show sa+(k+i)=sa+k+i by lia];exact e⟩
  .obtain⟨i,hi,e⟩:=zdi (by lia) q;exact .inr ⟨i,hi,e⟩
 have y0le:∀(i:Nat) y,i<nb->(Aq st0)[sa+na+i]?=some y->L y y0=false:=λi y hi hy=>sB 0 i y0 y (Be _) hi (by simpa using hy0) hy
 have lez0:∀(i:Nat) x,i<na->(Aq st0)[sa+i]?=some x->L z0 x=false:=λi x hi hx=>sA i (na-1) x z0 (by lia) (by lia) hx hz0
 refine⟨hkd,hp,hf,?_,λi hi=>?_,λi x hx=>?_,λi j x y hij hj hx hy=>?_⟩
 .rw[ha];refine Array.perm_iff_toList_perm.mpr ?_
  rw[zk5 hz2]
  have e:(Aq st0).toList=(Aq st0).toList.take (sa+k)++(((Aq st0).extract (sa+k) (sa+k+(na-k))).toList++((Aq st0).extract (sa+na) (sa+na+m)).toList)++(Aq st0).toList.drop (sa+k+r.toList.length):=by rw[zct,zct];have d1:=BJ (sa+k) (Aq st0).toList;have d2:=zcx (Aq st0).toList (sa+k) (na-k);have d3:=zcx (Aq st0).toList (sa+na) m;rw[show sa+k+(na-k)=sa+na by lia]at d2;rw[show sa+k+r.toList.length=sa+na+m by lia,AC,AC,<- d3,<- d2,d1]
  conv=>rhs;rw[e]
  exact (hperm.append_left _).append_right _
 .rw[get',if_neg (by lia)]
 .rw[get']at hx;split at hx
  .rcases rmem x (As hx) with⟨_,_,_,e⟩ |⟨_,_,e⟩
   .exact hS _ _ e
   .exact hS _ _ e
  .exact hS _ _ hx
 .rw[get']at hx hy
  by_cases ci:sa+k<=sa+i/\sa+i<sa+k+r.toList.length
  .rw[if_pos ci]at hx
   by_cases cj:sa+k<=sa+j/\sa+j<sa+k+r.toList.length
   .rw[if_pos cj]at hy;rcases A8 i j with q |q
    .have h1:sa+i-(sa+k)<r.toList.length:=by lia
     have h2:sa+j-(sa+k)<r.toList.length:=by lia
     rw[Aa h1]at hx;rw[Aa h2]at hy;have:=List.pairwise_iff_getElem.mp hpair _ _ h1 h2 (by lia);rw[AW hx,AW hy]at this;exact this
    .have e:i=j:=by lia
     subst e;rw[hx]at hy;cases hy;rcases rmem x (As hx) with⟨_,_,_,e⟩ |⟨_,_,e⟩
     .exact O.rf (hS _ _ e)
     .exact O.rf (hS _ _ e)
   .rw[if_neg cj,show sa+j=sa+na+(j-na) by lia]at hy;have q1:=B2 (j-na) y (by lia) (by lia) hy;rcases rmem x (As hx) with⟨t,_,h2,e⟩ |⟨t,h2,e⟩
    .exact O.tr x z0 y (hS _ _ e) (hS _ _ hz0) (hS _ _ hy) (lez0 t x h2 e) q1
    .exact sB t (j-na) x y (by lia) (by lia) e hy
  .rw[if_neg ci]at hx
   by_cases cj:sa+k<=sa+j/\sa+j<sa+k+r.toList.length
   .rw[if_pos cj]at hy;rcases rmem y (As hy) with⟨t,h1,h2,e⟩ |⟨t,h2,e⟩
    .exact sA i t x y (by lia) h2 hx e
    .exact O.tr x y0 y (hS _ _ hx) (hS _ _ hy0) (hS _ _ e) (A1 i x (by lia) hx) (y0le t y (by lia) e)
   .rw[if_neg cj]at hy;rcases A8 i k with ck |ck
    .rcases A8 j k with cl |cl
     .exact sA i j x y hij (by lia) hx hy
     .rw[show sa+j=sa+na+(j-na) by lia]at hy;exact O.tr x y0 y (hS _ _ hx) (hS _ _ hy0) (hS _ _ hy) (A1 i x ck hx) (y0le (j-na) y (by lia) hy)
    .rw[show sa+i=sa+na+(i-na) by lia]at hx;rw[show sa+j=sa+na+(j-na) by lia]at hy;exact sB (i-na) (j-na) x y (by lia) (by lia) hx hy
theorem zgq (O : LtOk M A E s kd S L){st : AM}{i sa na pw nb pw2 : Nat}{Q : Bool → AM → Prop}(h1 : (AO st)[i]? = some (sa, na, pw)) (h2 : (AO st)[i + 1]? = some (sa + na, nb, pw2)) (hna : 1 ≤ na) (hnb : 1 ≤ nb) (hz : sa + na + nb ≤ (Aq st).size)
    (hk:kindOf st=kd) (hf:Cg st=none) (hS:∀ (k:Nat) x,(Aq st)[k]?=some x→S x) (sA:Seg L (Aq st) sa na) (sB:Seg L (Aq st) (sa+na) nb)
    (hQ:∀ st',SM kd S L st st' (((AO st).setIfInBounds i (sa,na+nb,pw)).eraseIdxIfInBounds (i+1)) sa (na+nb)→Q true st'):wpS M A E s (mergeAt' i) Q st:=by
  refine Ag (Dw ?_)
  rw[h1,h2]
  dsimp only
  refine Ag (zk6 ?_)
  obtain⟨y0,hy0⟩:=zbj (st:=st) (i:=sa+na) (by lia)
  obtain⟨z0,hz0⟩:=zbj (st:=st) (i:=sa+(na - 1)) (by lia)
  refine Ag (zax hy0 ?_)
  have Sy:=hS _ _ hy0
  refine Ag (zbr O (left:=false) (b:=λi=>match (Aq st)[sa+i]? with | some x=>!L y0 x | none=>false) hk Sy (λi hi=>?_) (λi j hij hj hb=>?_) (by lia) (λk hkn kt kf=>?_))
  . obtain⟨x,hx⟩:=zbj (st:=st) (i:=sa+i) (by lia)
    refine⟨x,hx,hS _ _ hx,?_⟩
    simp only[hx]
    rfl
  . obtain⟨x,hx⟩:=zbj (st:=st) (i:=sa+i) (by lia)
    obtain⟨y,hy⟩:=zbj (st:=st) (i:=sa+j) (by lia)
    simp only[hx,hy] at hb ⊢
    have e1:=sA i j x y hij hj hx hy
    have e2:L y0 y=false:=by simpa using hb
    rw[O.tr x y y0 (hS _ _ hx) (hS _ _ hy) Sy e1 e2];rfl
  have A1:∀ (i:Nat) x,i<k→(Aq st)[sa+i]?=some x→L y0 x=false:=λi x hi hx=>by
    have:=kt i hi
    simp only[hx] at this
    simpa using this
  have A2:∀ (i:Nat) x,k≤i→i<na→(Aq st)[sa+i]?=some x→L y0 x=true:=λi x h3 h4 hx=>by
    have:=kf i h3 h4
    simp only[hx] at this
    simpa using this
  dsimp only
  by_cases hk0:(na - k == 0)=true
  . rw[if_pos hk0]
    have ek : k = na := by have : na - k = 0 := by simpa using hk0
                           lia
    refine Ao (hQ _ ⟨hk,rfl,hf,Array.Perm.refl _,λ_ _=>rfl,hS,sA.glue O hS sB (λx y hx hy=>?_) (by lia) hz⟩)
    rw[hy0] at hy;cases hy
    exact A1 (na - 1) x (by lia) hx
  . rw[if_neg hk0]
    have hkl : k < na := by have : na - k ≠ 0 := by simpa using hk0
                            lia
    have hz0':(Aq st)[sa+k+(na - k) - 1]?=some z0:=by rw[show sa+k+(na - k) - 1=sa+(na - 1) by lia];exact hz0
    refine Ag (zax hz0' ?_)
    have Sz:=hS _ _ hz0
    refine Ag (zbr O (left:=true) (b:=λi=>match (Aq st)[sa+na+i]? with | some x=>L x z0 | none=>false) hk Sz (λi hi=>?_) (λi j hij hj hb=>?_) (by lia) (λm hmn mt mf=>?_))
    . obtain⟨x,hx⟩:=zbj (st:=st) (i:=sa+na+i) (by lia)
      refine⟨x,hx,hS _ _ hx,?_⟩
      simp only[hx]
      rfl
    . obtain⟨x,hx⟩:=zbj (st:=st) (i:=sa+na+i) (by lia)
      obtain⟨y,hy⟩:=zbj (st:=st) (i:=sa+na+j) (by lia)
      simp only[hx,hy] at hb ⊢
      have e1:=sB i j x y hij hj hx hy
      cases q:L x z0 with
      | true=>rfl
      | false =>
        have:=O.tr z0 x y Sz (hS _ _ hx) (hS _ _ hy) q e1
        rw[hb] at this;cases this
    have B1:∀ (i:Nat) y,i<m→(Aq st)[sa+na+i]?=some y→L y z0=true:=λi y hi hy=>by
      have:=mt i hi
      simp only[hy] at this
      exact this
    have B2:∀ (i:Nat) y,m≤i→i<nb→(Aq st)[sa+na+i]?=some y→L y z0=false:=λi y h3 h4 hy=>by
      have:=mf i h3 h4
      simp only[hy] at this
      exact this
    dsimp only
    have y0z:L y0 z0=true:=A2 (na - 1) z0 (by lia) (by lia) hz0
    have hm0:0<m:=by
      rcases BF m with q | q
      . have:=B2 0 y0 (by lia) (by lia) (by simpa using hy0)
        rw[y0z] at this;cases this
      . exact q
    rw[if_neg (by simp;lia)]
    have exA:sa+na=sa+k+(na - k):=by lia
    have hX:((Aq st).extract (sa+k) (sa+na))=(Aq st).extract (sa+k) (sa+k+(na - k)):=by rw[← exA]
    have sA':Seg L (Aq st) (sa+k) (na - k):=λi j x y hij hj hx hy=>sA (k+i) (k+j) x y (by lia) (by lia) (by rw[show sa+(k+i)=sa+k+i by lia];exact hx) (by rw[show sa+(k+j)=sa+k+j by lia];exact hy)
    have sB':Seg L (Aq st) (sa+na) m:=λi j x y hij hj hx hy=>sB i j x y hij (by lia) hx hy
    have T:Two S L ((Aq st).extract (sa+k) (sa+k+(na - k))) ((Aq st).extract (sa+na) (sa+na+m)):=⟨zhy (by lia) sA',zhy (by lia) sB',(λx hx=>by obtain⟨i,_,e⟩:=zdi (by lia) hx;exact hS _ _ e),(λx hx=>by obtain⟨i,_,e⟩:=zdi (by lia) hx;exact hS _ _ e)⟩
    have zA:0<((Aq st).extract (sa+k) (sa+k+(na - k))).size:=by rw[Cb];lia
    have zB:0<((Aq st).extract (sa+na) (sa+na+m)).size:=by rw[Cb];lia
    have c0:∀ y,((Aq st).extract (sa+na) (sa+na+m))[0]?=some y→∀ x∈((Aq st).extract (sa+k) (sa+k+(na - k))).toList,leOf L y x:=λy hy x hx=>by
      rw[zfG (by lia),if_pos hm0] at hy
      rw[BU,hy0] at hy;cases hy
      obtain⟨i,hi,e⟩:=zdi (by lia) hx
      exact O.as y0 x Sy (hS _ _ e) (A2 (k+i) x (by lia) (by lia) (by rw[show sa+(k+i)=sa+k+i by lia];exact e))
    have c1:∀ z,((Aq st).extract (sa+k) (sa+k+(na - k)))[((Aq st).extract (sa+k) (sa+k+(na - k))).size - 1]?=some z→∀ x∈((Aq st).extract (sa+na) (sa+na+m)).toList,leOf L x z:=λz hz' x hx=>by
      have es:((Aq st).extract (sa+k) (sa+k+(na - k))).size=na - k:=by rw[Cb];lia
      rw[es,zfG (by lia),if_pos (by lia),show sa+k+(na - k - 1)=sa+(na - 1) by lia,hz0] at hz'
      cases hz'
      obtain⟨i,hi,e⟩:=zdi (by lia) hx
      exact O.as x z0 (hS _ _ e) Sz (B1 i x hi e)
    by_cases hle:na - k≤m
    . rw[if_pos hle]
      refine Ag ?_
      show wpS M A E s (zfw ((Aq st).extract (sa+k) (sa+na)) ((Aq st).extract (sa+na) (sa+na+m))) _ _
      rw[hX]
      refine zgo O T hk zA zB c0 c1 λr st2 hr hlk=>?_
      refine Ag (BK (Ag (Dw (Ao ?_))))
      have hf2:Cg st2=none:=by rw[hlk.2.2.2];exact hf
      have:=hQ (setArr st2 (wr (Aq st) (sa+k) r.toList 0)) (SM.write O hna hkl hm0 hmn hz hS sA sB y0 z0 hy0 hz0 A1 B2 hr (by show kindOf st2=kd;rw[hlk.1];exact hk) (by show AO st2=_;rw[hlk.2.2.1]) hf2 rfl)
      have ea:Aq st2=Aq st:=hlk.2.1
      rw[← ea] at this
      show Q (Cg st2).isNone _
      rw[hf2]
      exact this
    . rw[if_neg hle]
      refine Ag ?_
      show wpS M A E s (zfx ((Aq st).extract (sa+k) (sa+na)) ((Aq st).extract (sa+na) (sa+na+m))) _ _
      rw[hX]
      refine zgp O T hk zA zB c0 c1 λr st2 hr hlk=>?_
      refine Ag (BK (Ag (Dw (Ao ?_))))
      have hf2:Cg st2=none:=by rw[hlk.2.2.2];exact hf
      have:=hQ (setArr st2 (wr (Aq st) (sa+k) r.toList 0)) (SM.write O hna hkl hm0 hmn hz hS sA sB y0 z0 hy0 hz0 A1 B2 hr (by show kindOf st2=kd;rw[hlk.1];exact hk) (by show AO st2=_;rw[hlk.2.2.1]) hf2 rfl)
      have ea:Aq st2=Aq st:=hlk.2.1
      rw[← ea] at this
      show Q (Cg st2).isNone _
      rw[hf2]
      exact this
end
end TS
set_option maxHeartbeats 8000000
namespace TS
open PySem PyProof.Rows
noncomputable abbrev Run:=Nat×Nat×Nat
section
variable {M:Model}{A:AQ}{E:Value->Ab->Prop}{s:Ab}{kd:Ct}{S:Keyed->Prop}{L:Keyed->Keyed->Bool}
noncomputable def Runs(L:Keyed->Keyed->Bool)(a:Array Keyed):List Run->Nat->Nat->Prop
 |[],x,y=>x=y
 |r::l,x,y=>r.1=x/\1<=r.2.1/\Seg L a r.1 r.2.1/\Runs L a l (x+r.2.1) y
theorem Runs.le{a:Array Keyed}:∀{l:List Run}{x y:Nat},Runs L a l x y->x+l.length<=y
 |[],x,y,h=>by have:x=y:=h;simp;lia
 |r::l,x,y,h=>by
  have:=Runs.le h.2.2.2;have:=h.2.1;simp only[AS];lia
theorem Seg.cong{a b:Array Keyed}{lo n:Nat}(h:Seg L a lo n)(e:∀k:Nat,lo<=k->k<lo+n->b[k]?=a[k]?):Seg L b lo n:=λi j x y hij hj hx hy =>
 h i j x y hij hj (by rw[<- e _ (by lia) (by lia)];exact hx) (by rw[<- e _ (by lia) (by lia)];exact hy)
theorem Runs.cong{a b:Array Keyed}:∀{l:List Run}{x y:Nat},Runs L a l x y->(∀k:Nat,x<=k->k<y->b[k]?=a[k]?)->Runs L b l x y
 |[],_,_,h,_=>h
 |r::l,x,y,h,e=>by
  have hl:=h.2.2.2.le;have h1:=h.1;exact⟨h.1,h.2.1,h.2.2.1.cong λk h2 h3=>e k (by lia) (by lia),Runs.cong h.2.2.2 λk h2 h3=>e k (by lia) h3⟩
theorem Runs.snoc{a:Array Keyed}:∀{l:List Run}{x y n pw:Nat},Runs L a l x y->1<=n->Seg L a y n->Runs L a (l++[(y,n,pw)]) x (y+n)
 |[],x,y,n,pw,h,hn,hs=>by
  have:x=y:=h;subst this;exact⟨rfl,hn,hs,rfl⟩
 |r::l,x,y,n,pw,h,hn,hs=>⟨h.1,h.2.1,h.2.2.1,Runs.snoc h.2.2.2 hn hs⟩
theorem Runs.pair{a:Array Keyed} : ∀{l:List Run}{x y i sa na pw sb nb pw2:Nat}, Runs L a l x y -> l[i]? = some (sa, na, pw) -> l[i + 1]? = some (sb, nb, pw2) ->
  sb=sa+na/\1<=na/\1<=nb/\x<=sa/\sa+na+nb<=y/\Seg L a sa na/\Seg L a (sa+na) nb /\
  ∀b:Array Keyed,(∀k:Nat,k<sa∨sa+na+nb<=k->b[k]?=a[k]?)->Seg L b sa (na+nb)->Runs L b ((l.set i (sa,na+nb,pw)).eraseIdx (i+1)) x y
 |[],_,_,_,_,_,_,_,_,_,_,h1,_=>by simp at h1
 |[_],_,_,i,_,_,_,_,_,_,_,_,h2=>by simp at h2
 |r::q::l,x,y,0,sa,na,pw,sb,nb,pw2,h,h1,h2=>by
  have e1:r=(sa,na,pw):=AW h1;have e2:q=(sb,nb,pw2):=AW h2;subst e1;subst e2;obtain⟨a1,a2,a3,b1,b2,b3,hr⟩:=h;simp only at a1 a2 a3 b1 b2 b3 hr;subst a1;have hl:=hr.le;refine⟨b1,a2,b2,Ai _,by lia,a3,by rw[<- b1];exact b3,λb hb hs=>⟨rfl,by show 1<=na+nb;lia,hs,?_⟩⟩;show Runs L b l (sa+(na+nb)) y;rw[show sa+(na+nb)=sa+na+nb by lia];exact hr.cong λk h3 h4=>hb k (.inr h3)
 |r::q::l,x,y,i+1,sa,na,pw,sb,nb,pw2,h,h1,h2=>by
  obtain⟨a1,a2,a3,hr⟩:=h;obtain⟨c1,c2,c3,c4,c5,c6,c7,c8⟩:=Runs.pair hr (i:=i) (by simpa using h1) (by simpa using h2);refine⟨c1,c2,c3,by lia,c5,c6,c7,λb hb hs=>⟨a1,a2,a3.cong λk h3 h4=>hb k (.inl (by lia)),?_⟩⟩;exact c8 b hb hs
theorem Runs.power{a:Array Keyed}:∀{l:List Run}{x y:Nat}(f:Run->Run) (i:Nat),(∀r,(f r).1=r.1/\(f r).2.1=r.2.1)->Runs L a l x y->Runs L a (l.modify i f) x y
 |[],_,_,f,i,_,h=>by cases i <;> exact h
 |r::l,x,y,f,0,hf,h=>by
  refine⟨by rw[(hf r).1];exact h.1,by rw[(hf r).2];exact h.2.1,by rw[(hf r).1,(hf r).2];exact h.2.2.1,?_⟩;show Runs L a l (x+(f r).2.1) y;rw[(hf r).2];exact h.2.2.2
 |r::l,x,y,f,i+1,hf,h=>⟨h.1,h.2.1,h.2.2.1,Runs.power f i hf h.2.2.2⟩
structure PD (kd:Ct) (S:Keyed->Prop) (L:Keyed->Keyed->Bool) (a0:Array Keyed) (st:AM) (lo:Nat):Prop where
 kind:kindOf st=kd
 fail:Cg st=none
 perm:(Aq st).Perm a0
 all:∀(k:Nat) x,(Aq st)[k]?=some x->S x
 runs:Runs L (Aq st) (AO st).toList 0 lo
theorem PD.size{a0:Array Keyed}{st:AM}{lo:Nat}(h:PD kd S L a0 st lo):(Aq st).size=a0.size:=h.perm.size_eq
theorem PD.merge(O:LtOk M A E s kd S L){a0:Array Keyed}{st:AM}{lo i:Nat}{Q:Bool -> AM -> Prop}(h:PD kd S L a0 st lo)(hlo:lo <= a0.size)(hi:i + 1 < (AO st).size)
  (hQ:∀st',PD kd S L a0 st' lo->(AO st').size+1=(AO st).size->(∀k:Nat,lo<=k->(Aq st')[k]?=(Aq st)[k]?)->Q true st'):wpS M A E s (mergeAt' i) Q st:=by
 obtain⟨⟨sa,na,pw⟩,h1⟩:∃r,(AO st)[i]?=some r:=⟨_,BP (by lia)⟩;obtain⟨⟨sb,nb,pw2⟩,h2⟩:∃r,(AO st)[i+1]?=some r:=⟨_,BP hi⟩;obtain⟨c1,c2,c3,c4,c5,c6,c7,c8⟩:=h.runs.pair (i:=i) (by rw[Bi];exact h1) (by rw[Bi];exact h2);subst c1;refine zgq O h1 h2 c2 c3 (by rw[h.size];lia) h.kind h.fail h.all c6 c7 λst' sm=>hQ st' ⟨sm.kind,sm.fail,sm.perm.trans h.perm,sm.all,?_⟩ ?_ λk hk=>sm.out k (by lia)
 .rw[sm.pend];have e:(((AO st).setIfInBounds i (sa,na+nb,pw)).eraseIdxIfInBounds (i+1)).toList=((AO st).toList.set i (sa,na+nb,pw)).eraseIdx (i+1):=by simp
  rw[e];exact c8 _ (λk hk=>sm.out k (by lia)) sm.seg
 .rw[sm.pend];have e:(((AO st).setIfInBounds i (sa,na+nb,pw)).eraseIdxIfInBounds (i+1)).toList=((AO st).toList.set i (sa,na+nb,pw)).eraseIdx (i+1):=by simp
  have e2:=congrArg List.length e;rw[List.length_eraseIdx_of_lt (by rw[List.length_set,AG];exact hi),List.length_set,AG,AG]at e2;lia
theorem sortRuns_spec(O:LtOk M A E s kd S L){st:AM}{Q:Unit -> AM -> Prop}(h2 : 2 <= (Aq st).size)(hk:kindOf st=kd)(hp:AO st = #[])(hf:Cg st=none)(hS:∀(k:Nat) x, (Aq st)[k]? = some x -> S x)
  (hQ:∀st',(Aq st').Perm (Aq st)->Cg st'=none->Seg L (Aq st') 0 (Aq st).size->Q () st'):wpS M A E s sortRuns' Q st:=by
 rw[sortRuns'_eq];refine Ag (Dw ?_);dsimp only;have pd0:PD kd S L (Aq st) st 0:=⟨hk,hf,Array.Perm.refl _,hS,by rw[hp];rfl⟩;generalize ha0:Aq st=a0 at h2 pd0 hQ
 refine Ag (Ca (Bo (I:=λx c st'=>∃lo,c=(none,lo)/\(x<=lo∨a0.size<=lo)/\lo<=a0.size/\PD kd S L a0 st' lo)
  (Q:=λc st'=>c=(none,a0.size)/\PD kd S L a0 st' a0.size) ?step ?fin ⟨0,rfl,.inl (Ai _),Be _,pd0⟩) ?post)
 case fin =>
  rintro c st' ⟨lo,rfl,h3,h4,pd⟩;have:lo=a0.size:=by lia
  subst this;exact⟨rfl,pd⟩
 case step =>
  rintro x c st' _ hx ⟨lo,rfl,h3,h4,pd⟩;dsimp only
  by_cases hge:lo ≥ a0.size
  .rw[if_pos hge];have:lo=a0.size:=by lia
   subst this;exact Ao ⟨rfl,pd⟩
  .rw[if_neg hge];refine Ag (zfM O (by lia) (by rw[pd.size];lia) pd.kind pd.all λm st1 sb1 hm1 hm2 sg1=>?_);dsimp only;have pd1:PD kd S L a0 st1 lo:=⟨sb1.kind,by rw[sb1.fail];exact pd.fail,sb1.perm.trans pd.perm,sb1.all,by rw[sb1.pend];exact pd.runs.cong λk _ h5=>sb1.out k (.inl h5)⟩
   by_cases hlt:m<minRun' a0.size a0.size 0
   .rw[if_pos hlt];refine Ag (wpS_lift (CO ⟨rfl,?_⟩));refine Ag (zej O hm1 (by lia) (by rw[pd1.size];lia) pd1.kind pd1.all sg1 λst2 sb2 sg2=>?_)
    try dsimp only
    rw[if_neg (by decide)];have pdX:PD kd S L a0 st2 lo:=⟨sb2.kind,by rw[sb2.fail];exact pd1.fail,sb2.perm.trans pd1.perm,sb2.all,by rw[sb2.pend];exact pd1.runs.cong λk _ h5=>sb2.out k (.inl h5)⟩;have sgX:=sg2;refine Ag (Dw ?_)
    cases hb:(AO st2).back? with
    |none =>
     try dsimp only
     refine Ag (BK (Ao ⟨lo+min (a0.size-lo) (minRun' a0.size a0.size 0),rfl,.inl (by lia),by lia,?_⟩));refine⟨pdX.kind,pdX.fail,pdX.perm,pdX.all,?_⟩;show Runs L (Aq st2) ((AO st2).push (lo,min (a0.size-lo) (minRun' a0.size a0.size 0),0)).toList 0 (lo+min (a0.size-lo) (minRun' a0.size a0.size 0));rw[CH];exact pdX.runs.snoc (by lia) sgX
    |some r =>
     obtain⟨s1,n1,p1⟩:=r
     try dsimp only
     refine Ag (Ca (Bo (I:=λy c st3=>c=(none,())/\PD kd S L a0 st3 lo/\Seg L (Aq st3) lo (min (a0.size-lo) (minRun' a0.size a0.size 0))) (Q:=λc st3=>c=(none,())/\PD kd S L a0 st3 lo/\Seg L (Aq st3) lo (min (a0.size-lo) (minRun' a0.size a0.size 0))) ?stepI ?finI ⟨rfl,pdX,sgX⟩) ?postI)
     case finI =>
      rintro c st3 hh;exact hh
     case stepI =>
      rintro y c st3 _ _ ⟨rfl,pd3,sg3⟩;refine Ag (Dw ?_)
      by_cases hsz:(AO st3).size > 1
      .rw[if_pos hsz];obtain⟨⟨u1,u2,older⟩,hu⟩:∃r,(AO st3)[(AO st3).size-2]?=some r:=⟨_,BP (by lia)⟩;rw[hu]
       try dsimp only
       by_cases hol:older<=power' a0.size (2*s1+n1) (2*s1+n1+n1+min (a0.size-lo) (minRun' a0.size a0.size 0)) a0.size
       .rw[if_pos hol];exact Ao ⟨rfl,pd3,sg3⟩
       .rw[if_neg hol];refine Ag (pd3.merge O (by lia) (by lia) λst4 pd4 _ ho=>?_)
        try dsimp only
        rw[if_neg (by decide)];exact Ao ⟨rfl,pd4,sg3.cong λk h5 _=>ho k h5⟩
      .rw[if_neg hsz];exact Ao ⟨rfl,pd3,sg3⟩
     case postI =>
      rintro c st3 ⟨rfl,pd3,sg3⟩
      try dsimp only
      refine Ag (BK (Ag (BK (Ao ⟨lo+min (a0.size-lo) (minRun' a0.size a0.size 0),rfl,.inl (by lia),by lia,?_⟩))));refine⟨pd3.kind,pd3.fail,pd3.perm,pd3.all,?_⟩;show Runs L (Aq st3) (((AO st3).modify ((AO st3).size-1) _).push (lo,min (a0.size-lo) (minRun' a0.size a0.size 0),0)).toList 0 (lo+min (a0.size-lo) (minRun' a0.size a0.size 0));rw[CH,Array.toList_modify];refine Runs.snoc (Runs.power _ _ ?_ pd3.runs) (by lia) sg3;exact λr=>⟨rfl,rfl⟩
   .rw[if_neg hlt];have pdX:=pd1;have sgX:=sg1;refine Ag (Dw ?_)
    cases hb:(AO st1).back? with
    |none =>
     try dsimp only
     refine Ag (BK (Ao ⟨lo+m,rfl,.inl (by lia),by lia,?_⟩));refine⟨pdX.kind,pdX.fail,pdX.perm,pdX.all,?_⟩;show Runs L (Aq st1) ((AO st1).push (lo,m,0)).toList 0 (lo+m);rw[CH];exact pdX.runs.snoc (by lia) sgX
    |some r =>
     obtain⟨s1,n1,p1⟩:=r
     try dsimp only
     refine Ag (Ca (Bo (I:=λy c st3=>c=(none,())/\PD kd S L a0 st3 lo/\Seg L (Aq st3) lo (m)) (Q:=λc st3=>c=(none,())/\PD kd S L a0 st3 lo/\Seg L (Aq st3) lo (m)) ?stepI ?finI ⟨rfl,pdX,sgX⟩) ?postI)
     case finI =>
      rintro c st3 hh;exact hh
     case stepI =>
      rintro y c st3 _ _ ⟨rfl,pd3,sg3⟩;refine Ag (Dw ?_)
      by_cases hsz:(AO st3).size > 1
      .rw[if_pos hsz];obtain⟨⟨u1,u2,older⟩,hu⟩:∃r,(AO st3)[(AO st3).size-2]?=some r:=⟨_,BP (by lia)⟩;rw[hu]
       try dsimp only
       by_cases hol:older<=power' a0.size (2*s1+n1) (2*s1+n1+n1+m) a0.size
       .rw[if_pos hol];exact Ao ⟨rfl,pd3,sg3⟩
       .rw[if_neg hol];refine Ag (pd3.merge O (by lia) (by lia) λst4 pd4 _ ho=>?_)
        try dsimp only
        rw[if_neg (by decide)];exact Ao ⟨rfl,pd4,sg3.cong λk h5 _=>ho k h5⟩
      .rw[if_neg hsz];exact Ao ⟨rfl,pd3,sg3⟩
     case postI =>
      rintro c st3 ⟨rfl,pd3,sg3⟩
      try dsimp only
      refine Ag (BK (Ag (BK (Ao ⟨lo+m,rfl,.inl (by lia),by lia,?_⟩))));refine⟨pd3.kind,pd3.fail,pd3.perm,pd3.all,?_⟩;show Runs L (Aq st3) (((AO st3).modify ((AO st3).size-1) _).push (lo,m,0)).toList 0 (lo+m);rw[CH,Array.toList_modify];refine Runs.snoc (Runs.power _ _ ?_ pd3.runs) (by lia) sg3;exact λr=>⟨rfl,rfl⟩
 case post =>
  rintro c st1 ⟨rfl,pd1⟩
  try dsimp only
  have hlen:(AO st1).size<=a0.size:=by have:=pd1.runs.le;rw[AG]at this;lia
  refine Ag (Ca (Bo (I:=λx c st2=>c=(none,())/\PD kd S L a0 st2 a0.size/\((AO st2).size+x<=a0.size+1))
   (Q:=λc st2=>c=(none,())/\PD kd S L a0 st2 a0.size/\(AO st2).size<=1) ?step ?fin ⟨rfl,pd1,by lia⟩) ?post)
  case fin =>
   rintro c st2 ⟨rfl,pd2,h5⟩;exact⟨rfl,pd2,by lia⟩
  case step =>
   rintro x c st2 _ hx ⟨rfl,pd2,h5⟩;refine Ag (Dw ?_)
   try dsimp only
   by_cases hle:(AO st2).size<=1
   .rw[if_pos hle];exact Ao ⟨rfl,pd2,hle⟩
   .rw[if_neg hle];refine Ag (pd2.merge O (Ai _) ?_ λst3 pd3 hs3 _=>?_)
    .have le':∀(c:Prop) [Decidable c] (p q:Nat),(if c then p else q)<=max p q:=λc _ p q=>by split <;> lia
     have:=le' (Option.any (λx=>decide (x<(AO st2)[(AO st2).size-2+1]?.elim 0 λx=>x.snd.fst)) (if (AO st2).size-2 > 0 then Option.map (λx=>x.snd.fst) (AO st2)[(AO st2).size-2-1]? else none)=true) ((AO st2).size-2-1) ((AO st2).size-2);lia
    .try dsimp only
     rw[if_neg (by decide)];exact Ao ⟨rfl,pd3,by lia⟩
  case post =>
   rintro c st2 ⟨rfl,pd2,h5⟩;refine Ao (hQ st2 pd2.perm pd2.fail ?_);have hr:=pd2.runs
   cases hl:(AO st2).toList with
   |nil =>
    rw[hl]at hr;have:0=a0.size:=hr;lia
   |cons r l =>
    have hll:(AO st2).toList.length<=1:=by rw[AG];exact h5
    rw[hl]at hll hr;have:l=[]:=DI.mp (by simp at hll;simpa using hll);subst this;obtain⟨c1,c2,c3,c4⟩:=hr;have c4':0+r.2.1=a0.size:=c4;rw[c1,show r.2.1=a0.size by lia]at c3;exact c3
end
end TS
namespace L2
open PySem PySem.Spec PyProof.Rows
theorem zgb{α β:Type}{f:α->β}{xs ys:List β}(p:ys.Perm xs):∀{l:List α},xs=l.map f->∃l':List α,l'.Perm l/\ys=l'.map f:=by
 induction p with
 |nil=>intro l h;exact⟨l,List.Perm.refl _,h⟩
 |cons v _ ih =>
  intro l h
  match l,h with
  |x::l,h =>
   injection h with h1 h2;obtain⟨l',p',e⟩:=ih h2;exact⟨x::l',p'.cons x,by rw[e,h1];rfl⟩
 |swap a b r =>
  intro l h
  match l,h with
  |x::y::l,h =>
   injection h with h1 h2;injection h2 with h2 h3;exact⟨y::x::l,List.Perm.swap _ _ _,by rw[h1,h2,h3];rfl⟩
 |trans _ _ ih1 ih2 =>
  intro l h;obtain⟨l1,p1,h1⟩:=ih2 h;obtain⟨l2,p2,h2⟩:=ih1 h1;exact⟨l2,p2.trans p1,h2⟩
section
variable {X:Cx}{pins:List (Addr×Obj)}{σ:St}{H:Hp}{s:Ab}{D st:Addr}{e:Nat}{κV:Nat->List V}{ks:List Addr}{E:Value->Ab->Prop}
noncomputable def Ordd(κ:Nat->List Int)(n:Nat)(p:Array Nat):Prop:=RK.Pm n p/\p.toList.Pairwise λi j=>HT.lexLt (κ j) (κ i)=false
noncomputable def zgx(κ:Nat->List Int)(ks:List Addr):Value->List Int
 |.ref a=>κ (ks.idxOf a)
 |_=>[]
theorem zlJ{vs:List Value}{κ : Nat -> List Int}(K:SK X pins σ H s D st e κV ks)(hl:ks.length=vs.length)(h2 : 2 <= vs.length)
  (hcol:∀i j,i<ks.length->j<ks.length->∃n m r q rn rm,κV i=.int n::r/\κV j=.int m::q/\VCols r q rn rm/\κ i=n::rn/\κ j=m::rm) :
  zh3 X (Ordd κ vs.length) (ks.map At) vs E s:=by
 unfold zh3
 obtain⟨fs,kt,hfl,hfi⟩:=zjy (as:=[]) (vs:=[]) K.inv (ks:=ks) (ns:=(BD ks.length).map λi=>((κ i).headD 0)) (λi a ha=>by
  have hi:i<ks.length:=(Ac.mp ha).1;obtain⟨n,m,r,q,rn,rm,e1,_,_,e2,_⟩:=hcol i i hi hi;refine⟨n,r,?_,?_⟩
  .rw[AI,List.getElem?_range hi,C5,e2];rfl
  .rw[<- e1];exact K.hk i a ha) (by simp)
 refine W.kat_kind (T:=.type "int") kt (by lia) (λv hv=>?_) rfl ⟨rfl,?_⟩
 .obtain⟨n,t,rfl⟩:=hfi v hv;exact .now
 have hl':(ks.map At).length=vs.length:=by simp[hl]
 have hsz0:((ks.map At).toArray.zip vs.toArray).size=vs.length:=by simp[hl]
 generalize hZ:(ks.map At).toArray.zip vs.toArray=Z at hsz0;have hsz:Z.size=vs.length:=hsz0
 have kap:∀i (hi:i<ks.length),zgx κ ks (At ks[i])=κ i:=λi hi=>by
  have hj:ks.idxOf ks[i]<ks.length:=List.idxOf_lt_length_iff.mpr (A3 hi);have ej:ks[ks.idxOf ks[i]]=ks[i]:=List.getElem_idxOf hj;obtain⟨n,m,r,q,rn,rm,e1,e2,vc,e3,e4⟩:=hcol (ks.idxOf ks[i]) i hj hi;have k1:=K.hk (ks.idxOf ks[i]) ks[i] (by rw[Aa hj,ej]);have k2:=K.hk i ks[i] (Aa hi);have eq:=K.inv.tuple_inj k1 k2;show κ (ks.idxOf ks[i])=κ i;rw[e1,e2]at eq;injection eq with q1 q2;injection q1 with q1;subst q1;subst q2;rw[e3,e4]
  congr 1
  have same:∀{xs:List V} {as bs:List Int},VCols xs xs as bs->as=bs:=λ{xs}=>by
   induction xs with
   |nil=>intro as bs h;cases h;rfl
   |cons x xs ih =>
    intro as bs h
    cases h with
    |cons c h=>cases c <;> rw[ih h]
  exact same vc
 have itm:∀i,i<vs.length->Di Z i=(At (ks.getD i 0),vs.getD i Dx):=λi hi=>by
  rw[<- hZ,W.kat_item hl'];have:(ks.map At).getD i Dx=At (ks.getD i 0):=by simp[show i<ks.length by lia]
  rw[this]
 have O:TS.LtOk (AA X.prog X.w) X.A.in1.in1 E s (tuples' true) (λx=>∃i,i<ks.length/\x.1=At (ks.getD i 0)) (λx y=>HT.lexLt (zgx κ ks x.1) (zgx κ ks y.1)):=by
  refine⟨λx y hx hy st' Q hk q=>?_,λx y z _ _ _ h1 h2=>?_,λx y _ _ h=>HT.lexLt_asym h⟩
  .obtain⟨i,hi,ex⟩:=hx;obtain⟨j,hj,ey⟩:=hy;have gi:ks.getD i 0=ks[i]:=by simp[hi]
   have gj:ks.getD j 0=ks[j]:=by simp[hj]
   rw[gi]at ex;rw[gj]at ey;rw[ex,ey,kap i hi,kap j hj]at q;rw[lt'_eq];refine Ag (Dw ?_);rw[hk,ex,ey];obtain⟨n,m,r,q',rn,rm,e1,e2,vc,e3,e4⟩:=hcol i j hi hj;have k1:=K.hk i ks[i] (Aa hi);have k2:=K.hk j ks[j] (Aa hj);rw[e1]at k1;rw[e2]at k2;obtain⟨its,rv,⟨o,ho,hcl,c,hd⟩,_⟩:=K.inv.tuple k1;obtain⟨its2,rv2,⟨o2,ho2,hcl2,c2,hd2⟩,_⟩:=K.inv.tuple k2;refine Ag (wpS_lift (wpAny_attempt (W.kat_lt ho hd ho2 hd2 ?_)))
   cases rv with
   |cons rx rr =>
    cases rv2 with
    |cons rx2 rr2 =>
     obtain⟨t1,rfl⟩:=rx;obtain⟨t2,rfl⟩:=rx2;have cs:=vc.vals rr rr2
     have hlen:∀{us vs:List Value} {as bs:List Int},RK.Cols us vs as bs->us.length=vs.length:=λc=>by induction c with
      |nil=>rfl
      |cons _ _ ih=>simp[ih]
     simp only[Ap,AS,hlen cs,Cn,decide_false];refine RK.kat_cols0 cs ?_
     rw[e3,e4]at q;exact⟨rfl,Ao q⟩
  .cases q:HT.lexLt (zgx κ ks z.1) (zgx κ ks x.1) with
   |false=>rfl
   |true =>
    have:=HT.lexLt_of_not_lt_lt h2 q;rw[h1]at this;cases this
 have run:=TS.sortRuns_spec O (st:=SortSt.mk' (tuples' true) Z #[] 7 none) (Q:=λ_ st'=>Cg st'=none/\∃p:Array Nat,Ordd κ vs.length p/\p.size=vs.length/\Aq st'=p.map (Di Z))
  (by show 2<=Z.size;lia) rfl rfl rfl (λk x hx=>?_) (λst' hp hf hs=>?_)
 .exact BQ run (λr s' h=>⟨h.1,h.2⟩) λ_ _ z=>z
 .have hk':k<vs.length:=by rw[<- hsz];exact (Bm.mp hx).1
  have hx':Z[k]?=some x:=hx
  have e1:Di Z k=x:=by unfold Di;rw[Array.getD_eq_getD_getElem?,hx'];rfl
  rw[itm k hk']at e1;exact⟨k,by lia,by rw[<- e1]⟩
 .refine⟨hf,?_⟩;have hp':(Aq st').Perm Z:=hp;have hrng:=W.kas_range Z;rw[hsz]at hrng;obtain⟨l,pl,el⟩:=zgb (Array.perm_iff_toList_perm.mp hp') (l:=BD vs.length) (f:=Di Z) (by have:=congrArg Array.toList hrng;simpa using this.symm);have hll:l.length=vs.length:=by rw[pl.length_eq,List.length_range]
  refine⟨l.toArray,⟨?_,?_⟩,by simpa using hll,?_⟩
  .exact Array.perm_iff_toList_perm.mpr (by simpa using pl)
  .rw[CB];intro i j hi hj hij;have hi':i<l.length:=by simpa using hi
   have hj':j<l.length:=by simpa using hj
   have ai:(Aq st')[i]?=some (Di Z l[i]):=by rw[<- Bi,el,AI,Aa hi'];rfl
   have aj:(Aq st')[j]?=some (Di Z l[j]):=by rw[<- Bi,el,AI,Aa hj'];rfl
   have li:l[i]<vs.length:=List.mem_range.mp (pl.mem_iff.mp (A3 hi'));have lj:l[j]<vs.length:=List.mem_range.mp (pl.mem_iff.mp (A3 hj'));have:=hs i j _ _ (by lia) (by show j<Z.size;lia) (by rw[Cf];exact ai) (by rw[Cf];exact aj);rw[itm _ li,itm _ lj]at this;have g1:ks.getD l[i] 0=ks[l[i]]'(by lia):=by simp[show l[i]<ks.length by lia]
   have g2:ks.getD l[j] 0=ks[l[j]]'(by lia):=by simp[show l[j]<ks.length by lia]
   simp only[g1,g2]at this;rw[kap _ (by lia),kap _ (by lia)]at this;simpa using this
  .apply Array.toList_inj.mp
   rw[el];simp
end
section
variable {X:Cx}{x:Str}{p pos kp kpos:Pos}{e:Expr}{te:TE}{k:Nat}{f:Addr}{fd:Bv}{ps:List Str}{sp:Sp}{fn:Str}
noncomputable def zlS(K:W.Frag)(te:TE)(sp:Sp):TE:=λσ H Q=>te σ H λv H1=>∃l xs,∃ κV:Nat->List V,∃ κ:Nat->List Int,[v]=[V.ref l]/\SqL K H1 l xs/\xs.length<=1000 /\
 (∀i x H2,xs[i]?=some x->Same H1 H2->sp [x] H2 (λv H'=>Same H2 H'/\∃a,v=.ref a/\SqT K H' a (κV i)) E0) /\
 (∀i j,i<xs.length->j<xs.length->∃n m r q rn rm,κV i=.int n::r/\κV j=.int m::q/\VCols r q rn rm/\κ i=n::rn/\κ j=m::rm)/\∀(p:List Nat) D H',p.Perm (BD xs.length)->p.Pairwise (λi j=>HT.lexLt (κ j) (κ i)=false)->H1 D=none->Same H1 H'->H' D=some (.lst (p.map λi=>xs.getD i .non))->Q (.ref D) H'
theorem zj8 (F:FnOk X.prog X.w X.K X.mg X.base CX0 k f fd ps sp) (hr:Room (k + 1 + 1) X.A) (hb:Binds X.K fd ps []) (hg:Gl X "sorted") (hm:X.mg "sorted" = none) (hgf:Gl X fn) (hmf:X.mg fn=some (.ref f)) (he:PE X e te)
  (hdb:(fn == ("__debug__" : Str))=false:=by decide) (hse:Bl [e] X.env=[(false,eval e X.env)]:=by rfl) (hh:X.calm=true:=by rfl)
  (hall:(Dr pos (Co [⟨some "key",.Name fn kp,kpos⟩] X.env)).all (·.1.isSome)=true:=by rfl) (hkw:(Dr pos (Co [⟨some "key",.Name fn kp,kpos⟩] X.env)).any (·.1.isNone)=false:=by rfl)
  (hks:(Dr pos (Co [⟨some "key",.Name fn kp,kpos⟩] X.env)).filterMap (·.1)=[BW "key"]:=by rfl) :
  PE X (.Call (.Name "sorted" p) [e] [⟨some "key",.Name fn kp,kpos⟩] pos) (zlS X.K te sp):=by
 intro pins s σ H Q I h;refine Cs (zd8 I hg hm boot_sorted ?_ (by decide) (by decide));refine callWith_kw (thn (zag he zad (hs:=hse) pos pins s σ H (λvs H1=>∃l xs,∃ κV:Nat->List V,∃ κ:Nat->List Int,vs=[V.ref l]/\SqL X.K H1 l xs/\xs.length<=1000 /\
 (∀i x H2,xs[i]?=some x->Same H1 H2->sp [x] H2 (λv H'=>Same H2 H'/\∃a,v=.ref a/\SqT X.K H' a (κV i)) E0) /\
 (∀i j,i<xs.length->j<xs.length->∃n m r q rn rm,κV i=.int n::r/\κV j=.int m::q/\VCols r q rn rm/\κ i=n::rn/\κ j=m::rm)/\∀(p:List Nat) D H',p.Perm (BD xs.length)->p.Pairwise (λi j=>HT.lexLt (κ j) (κ i)=false)->H1 D=none->Same H1 H'->H' D=some (.lst (p.map λi=>xs.getD i .non))->Q (.ref D) H') I ?_) λus s1 ⟨vs,H1,I1,r,q⟩=>?_) (by rw[hse];rfl) (by rw[hse];rfl) hall hkw
 .show te σ H _;exact h
 .obtain⟨l,xs,κV,κ,rfl,hq,h64,turn,hcol,hQ⟩:=q;obtain⟨u,rfl,ru⟩:=Vals.one r
  cases (show u=At l from ru)
  refine thn (zi9 (nm:=some "key") (kpos:=kpos) (zdY (v:=.ref f) hgf hmf rfl hdb) zkJ pos pins s1 σ H1 (λzs H2=>zs=[.ref f]/\H2=H1) I1 ⟨rfl,rfl⟩) λws s2 ⟨zs,H2,I2,rz,q2⟩=>?_
  obtain⟨rfl,rfl⟩:=q2;obtain⟨u2,rfl,ru2⟩:=Vals.one rz
  cases (show u2=At f from ru2)
  rw[hks];refine zir (G:=Ordd κ xs.length) (zmk F hr hb turn) hq (λp hp i hi=>?_) (λh2=>⟨Array.Perm.refl _,?_⟩) (λ{vs ks H' s' D st e} r' K' hks h2=>?_) (λp D H' g hp hD hS hH=>hQ p.toList D H' ?_ g.2 hD hS hH) I2
  .have:=hp.1.mem_iff.mp (show i∈p by simpa using hi);simpa using this
  .rw[CB];intro i j hi hj hij;simp at hi hj;lia
  .have hlx:xs.length=vs.length:=r'.length;rw[hlx];exact zlJ K' hks h2 λi j hi hj=>hcol i j (by lia) (by lia)
  .have:=Array.perm_iff_toList_perm.mp g.1;simpa using this
end
section
variable {prog:AF}{w:A4}{A:AQ}{R:Result->Ab->Prop}{s:Ab}
theorem zdw{elt:Expr}{c0:Comprehension}{target iter:Expr}{ifs:List Expr}{rest:List Comprehension}{scope:Scope}{pos:Pos}{it acc:Value}{env:Env}
  (h0:CF (AA prog w) A (.compLoop (.ListComp elt (c0::⟨target,iter,ifs,0⟩::rest) scope pos) 1 it acc env) R s)
  (h:Au (AA prog w) A (pyIter it) (λit' s'=>CF (AA prog w) A (.compLoop (.ListComp elt (c0::⟨target,iter,ifs,0⟩::rest) scope pos) 1 it' acc env) R s') (notedBy (AA prog w) A env λx s'=>R (.error x) s') s) :
  CF (AA prog w) A (.compStart (.ListComp elt (c0::⟨target,iter,ifs,0⟩::rest) scope pos) 1 it acc env) R s:=by
 refine codeAny_of_tree ?_
 show Au _ _ ((compStart (.ListComp elt (c0::⟨target,iter,ifs,0⟩::rest) scope pos) 1 it acc env).onRaise (λx=>do noteFrame x env;standAt theWindowsPlace)) _ _ s;refine wpAny_notedAt ?_
 unfold compStart;show Au _ _ (ask >>= _) _ _ s;refine Ad (wpAny_askSetting (wpAny_ite ?_));split
 .first
   |exact An (And.intro rfl h0)
   |exact Ad (An (An (And.intro rfl h0)))
 .refine Ad (CO ?_);show Au _ _ (standAt iter.pos >>= _) _ _ s;exact Ad (CK (Ad (BQ h (λit' s' h'=>An (And.intro rfl h')) λ_ _ z=>z)))
end
section
variable {X:Cx}{osc:Scope}{N:List Str}{sc:Scope}{N':List Str}{sel:List (Option Nat)}{pos:Pos}{elt kx vx tg iter tg2 iter2:Expr}{ifs ifs2:List Expr}{wi wi2:TI}{g g2:TG}{tt tt2:TT}{te tk tv:TE}
noncomputable def tNest(wi2:TI)(g2:TG)(tb:TS):TS:=λD σ H=>wi2 σ H λJ H1=>zch J g2 tb { nx:=D.nx,rt:=λ_ _=>False } σ H1
theorem zlq{Y:Cx}{p:Addr}(hc:Y.calm=true)(hx:Y.xe=λ_ _ => False)(hi2:PI Y tg2 iter2 wi2)(hg2:PG Y tg2 g2)(ht2:PTs Y ifs2 tt2)(he:PE Y elt te)(hs2:∀x, Bz iter2 Y.env x=pure x) :
  PB Y (do
   let x <- eval iter2 Y.env
   standAt iter2.pos
   let x <- Bz iter2 Y.env x
   let _ <- runOwn (.compStart (.ListComp elt [⟨tg,iter,ifs,0⟩,⟨tg2,iter2,ifs2,0⟩] sc pos) 1 (<- Dt [x] (pyIter x)) (.ref p) Y.env) Y.env) (tNest wi2 g2 (tIfs tt2 (zcf p te))):=by
 intro pins s σ H D I h;refine Ad (thn (hi2 pins s σ H _ I h) λv s1 h1=>?_);refine Ad (CK ?_);rw[hs2];refine Ad (An ?_);refine Ad (By (thn h1 λitv s2 h2=>?_));obtain⟨it,fp,tn,J,H2,e,I2,T,st2,f2,h2⟩:=h2;subst e
 have loop:CF (AA Y.prog Y.w) Y.A (.compLoop (.ListComp elt [⟨tg,iter,ifs,0⟩,⟨tg2,iter2,ifs2,0⟩] sc pos) 1 (.ref it) (.ref p) Y.env) (λr s'=>match r with |.ok f=>Au (AA Y.prog Y.w) Y.A (pure ()) (λ_ s'=>∃ σ' H',Inv Y pins σ' H' s'/\D.nx σ' H') Y.xe s' |.error e=>cameBackBy (AA Y.prog Y.w) Y.A Y.env Y.xe e s') s2 :=
  zc5 (X:=Y) (p:=iter2.pos) (inner:=do let _ <- call (.builtin "list.append") [.ref p,<- eval elt Y.env]) rfl rfl rfl (λB {α t Q E s} h w=>by subst h;exact w) hc hx hg2 ht2 (zjc he) I2 T st2 f2 h2 λfl s' ⟨σ',H',I',_,q⟩=>An ⟨σ',H',I',q⟩
 refine Ad (wpAny_runOwn (zdw loop (T.self _ 0 _ _ _ st2 loop)))
theorem zgC{env:Env}{it p:Addr} : compTurn (.ListComp elt [⟨tg, iter, ifs, 0⟩, ⟨tg2, iter2, ifs2, 0⟩] sc pos) 0 (.ref it) (.ref p) env=(do
   standAt iter.pos
   match <- pyNext (.ref it) with
   |none=>pure (.done .next)
   |some v =>
    Du tg (.ref it) v
    assign tg env v
    let mut ok:=true
    for c in ifs do
     if ok then ok <- isTrue c env (eval c env)
    if ok then
     (do
      let x <- eval iter2 env
      standAt iter2.pos
      let x <- Bz iter2 env x
      let _ <- runOwn (.compStart (.ListComp elt [⟨tg,iter,ifs,0⟩,⟨tg2,iter2,ifs2,0⟩] sc pos) 1 (<- Dt [x] (pyIter x)) (.ref p) env) env)
    again (.compLoop (.ListComp elt [⟨tg,iter,ifs,0⟩,⟨tg2,iter2,ifs2,0⟩] sc pos) 0 (.ref it) (.ref p) env)):=by
 unfold compTurn;simp only[bind_assoc,pure_bind];rfl
theorem zin{it:Addr}{fp:List Addr}{tn:Nat -> Heap -> Prop}{J:It}(T:Turn X.prog X.w X.K tg J fp it tn)(hc:X.calm=true)(hg:InBlk X sc N' λY => PG Y tg g)(ht:InBlk X sc N' λY => PTs Y ifs tt)
  (hi2:InBlk X sc N' λY=>PI Y tg2 iter2 wi2) (hg2:InBlk X sc N' λY=>PG Y tg2 g2) (ht2:InBlk X sc N' λY=>PTs Y ifs2 tt2) (he:InBlk X sc N' λY=>PE Y elt te) (hs2:∀cl C x,Bz iter2 (CP sc cl C X.env) x=pure x) :
  ∀cl C s0 H0 ex p pins s σ H Dn R,Inv (blk X sc cl C N' s0 H0 ex) pins σ H s->tn 0 s.heap->(∀b∈fp,FpOk (blk X sc cl C N' s0 H0 ex) pins H b)->zch J g (tIfs tt (tNest wi2 g2 (tIfs tt2 (zcf p te)))) Dn σ H ->
   (∀fl s',(∃ σ' H',Inv (blk X sc cl C N' s0 H0 ex) pins σ' H' s'/\(∀b∈fp,H' b=none)/\Dn.nx σ' H')->R (.ok fl) s')->CF (AA X.prog X.w) X.A (.compLoop (.ListComp elt [⟨tg,iter,ifs,0⟩,⟨tg2,iter2,ifs2,0⟩] sc pos) 0 (.ref it) (.ref p) (CP sc cl C X.env)) R s :=
 λcl C s0 H0 ex p pins s σ H Dn R I st f W hR =>
  zc5 (X:=blk X sc cl C N' s0 H0 ex) (p:=iter.pos) (inner:=do
   let x <- eval iter2 (CP sc cl C X.env)
   standAt iter2.pos
   let x <- Bz iter2 (CP sc cl C X.env) x
   let _ <- runOwn (.compStart (.ListComp elt [⟨tg,iter,ifs,0⟩,⟨tg2,iter2,ifs2,0⟩] sc pos) 1 (<- Dt [x] (pyIter x)) (.ref p) (CP sc cl C X.env)) (CP sc cl C X.env))
   rfl rfl zgC (λB {α t Q E s} h w=>by subst h;exact w) hc rfl (hg _ _ _ _ _) (ht _ _ _ _ _) (zlq (Y:=blk X sc cl C N' s0 H0 ex) hc rfl (hi2 _ _ _ _ _) (hg2 _ _ _ _ _) (ht2 _ _ _ _ _) (he _ _ _ _ _) (hs2 cl C)) I T st f W hR
noncomputable def zle(wi:TI)(sel:List (Option Nat))(g:TG)(tt:TT)(wi2:TI)(g2:TG)(tt2:TT)(te:TE)(i:Nat):TS:=λD σ H=>wi σ H λJ H1=>∀p,H1 p=none ->
 zch J g (tIfs tt (tNest wi2 g2 (tIfs tt2 (zcf p te)))) { nx:=λ_ H'=>D.nx (σ.set i (some (.ref p))) H',rt:=λ_ _=>False } (selSt sel σ) (upd H1 p (.lst []))
theorem zi6{i:Nat}{x:Str}{px spos:Pos}(B:BlkOk osc N sc N' sel)(hnd:X.N.Nodup)(hi':X.N[i]? = some x)(hx:Loc X.env.scope x)(hi:PI X tg iter wi)(hg:InBlk X sc N' λY => PG Y tg g)(ht:InBlk X sc N' λY => PTs Y ifs tt)(hi2:InBlk X sc N' λY => PI Y tg2 iter2 wi2)(hg2:InBlk X sc N' λY => PG Y tg2 g2)(ht2:InBlk X sc N' λY => PTs Y ifs2 tt2)(he:InBlk X sc N' λY => PE Y elt te)(hs2:∀cl C x, Bz iter2 (CP sc cl C X.env) x=pure x)
  (hsw:swapsWith (.ListComp elt [⟨tg,iter,ifs,0⟩,⟨tg2,iter2,ifs2,0⟩] sc pos) (some (.Name x px)) spos.line X.env=pure true:=by rfl)
  (ho:X.env.scope=osc:=by rfl) (hN:X.N=N:=by rfl) (hc:X.calm=true:=by rfl) (hs:∀x,Bz iter X.env x=pure x:=by intro _;rfl)
  (hf:X.fn x=true∨X.env.scope.names.lookup x=some .local:=by first |exact .inl rfl |exact .inr rfl |assumption) :
  PS X (.Assign [.Name x px] (.ListComp elt [⟨tg,iter,ifs,0⟩,⟨tg2,iter2,ifs2,0⟩] sc pos) spos) (zle wi sel g tt wi2 g2 tt2 te i):=by
 intro pins s σ H D I h;obtain⟨cl,Cl⟩:=zhX I.ok B ho;rw[exec_Assign_Name_used _ _ _ _ hsw];refine Ad (CK (Ad ?_));show Au _ X.A (do let _ <- comprehension (.ListComp elt [⟨tg,iter,ifs,0⟩,⟨tg2,iter2,ifs2,0⟩] sc pos) sc X.env _ (newList []) false (eval iter X.env) (some (assign (.Name x px) X.env))) _ _ s;refine Ad (thn (CN (use:=some (assign (.Name x px) X.env)) (Q:=λ_ s'=>SP X pins D .next s') rfl hs Cl.run B.kind B.names (thn (hi pins s σ H _ I h) λv s1 h1=>thn h1 λitv s2 h2=>?_)) λ_ s' hq=>An (An hq));obtain⟨it,fp,tn,J,H2,e,I2,T,st2,f2,h2⟩:=h2;subst e
 refine BM (zc6 (e:=.ListComp elt [⟨tg,iter,ifs,0⟩,⟨tg2,iter2,ifs2,0⟩] sc pos) (inner:=λ_ _=>pure ()) (D:=λp=>{ nx:=λ_ H'=>D.nx (σ.set i (some (.ref p))) H',rt:=λ_ _=>False }) (tb:=λp=>tNest wi2 g2 (tIfs tt2 (zcf p te))) (use:=some (assign (.Name x px) X.env)) B ho hN hc (λacc env R s a b=>codeAny_compStart_list a b)
  (zin (iter:=iter) (pos:=pos) T hc hg ht hi2 hg2 ht2 he hs2) I2 T st2 f2 zg9 rfl (h2 _ (I2.hok.fresh (Ai _))) (λC H' s' I3 fC hn hq=>?_) s2.toks cl Cl X.xe)
 obtain⟨m,hn⟩:=hn;obtain⟨_,hq⟩:=hq;show Au _ X.A (assign (.Name x px) X.env (.ref s2.heap.objs.size)) _ _ _;refine wpAny_assign_Name (zdI I3 hnd hi' hx (v:=.ref s2.heap.objs.size) rfl (λs4 I4 hch=>?_) hf);obtain⟨a,sb,ha⟩:=hch
 have nC:C≠a:=by
  rcases ha with z |z
  .rw[z];exact fC.2.1
  .exact λq=>fC.2.2.2.2.1 x a z q.symm
 refine⟨m,hn.sameBut sb nC,λh' hs'=>⟨_,H',I4.let_go fC hs',hq⟩⟩
end
end L2
namespace RP
noncomputable def mv(i:Nat):Int×Int:=([(1,0),(1,1),(0,1),(-1,1),(-1,0),(-1,-1),(0,-1),(1,-1)]:List (Int×Int)).getD i (0,0)
noncomputable abbrev Cell:=Int×Int
noncomputable def go(c:Cell)(i:Nat):Cell:=(c.1+(mv i).1,c.2+(mv i).2)
structure Edge where
 c:Cell
 w:Nat
 deriving DecidableEq
noncomputable def gap(e:Edge):Cell:=go e.c ((2*e.w+6) % 8)
noncomputable def stepB(C:Cell->Bool)(e:Edge):Option Nat :=
 if C (go e.c ((2*e.w+7) % 8))=true then some ((2*e.w+7) % 8) else if C (go e.c (2*e.w))=true then some (2*e.w) else none
noncomputable def slant:Option Nat->Bool
 |none=>false
 |some s=>s % 2 == 1
noncomputable def edgeB(e:Edge):Option Nat->Edge
 |none=>⟨e.c,(e.w+1) % 4⟩
 |some s=>if s % 2=1 then ⟨go e.c s,(e.w+3) % 4⟩ else ⟨go e.c s,e.w⟩
noncomputable def nxt(C:Cell->Bool)(e:Edge):Edge:=edgeB e (stepB C e)
noncomputable def IsE(C:Cell->Bool)(e:Edge):Prop:=e.w<4/\C e.c=true/\C (gap e)=false
noncomputable def prv(C:Cell->Bool)(f:Edge):Edge :=
 if C (go f.c ((2*f.w+5) % 8))=true then ⟨go f.c ((2*f.w+5) % 8),(f.w+1) % 4⟩
 else if C (go f.c ((2*f.w+4) % 8))=true then ⟨go f.c ((2*f.w+4) % 8),f.w⟩ else ⟨f.c,(f.w+3) % 4⟩
theorem way4{w:Nat}(h:w<4):w=0∨w=1∨w=2∨w=3:=by lia
noncomputable def mvAdd(a b d:Nat):Bool:=(mv a).1+(mv b).1 == (mv d).1 && (mv a).2+(mv b).2 == (mv d).2
noncomputable def mvNil(a b:Nat):Bool:=(mv a).1+(mv b).1 == 0 && (mv a).2+(mv b).2 == 0
theorem go_go{c:Cell}{a b d:Nat}(h:mvAdd a b d=true):go (go c a) b=go c d:=by unfold mvAdd at h;simp only[Cp,beq_iff_eq]at h;unfold go;exact Prod.ext (by show c.1+(mv a).1+(mv b).1=c.1+(mv d).1;lia) (by show c.2+(mv a).2+(mv b).2=c.2+(mv d).2;lia)
theorem zjE{c:Cell}{a b:Nat}(h:mvNil a b=true):go (go c a) b=c:=by unfold mvNil at h;simp only[Cp,beq_iff_eq]at h;unfold go;exact Prod.ext (by show c.1+(mv a).1+(mv b).1=c.1;lia) (by show c.2+(mv a).2+(mv b).2=c.2;lia)
theorem f1:∀w<4,mvAdd ((2*w+7) % 8) ((2*((w+3) % 4)+6) % 8) ((2*w+6) % 8)=true:=by decide
theorem f2:∀w<4,mvAdd (2*w) ((2*w+6) % 8) ((2*w+7) % 8)=true:=by decide
theorem f3:∀w<4,(2*((w+1) % 4)+6) % 8=2*w:=by decide
theorem f4:∀w<4,mvNil ((2*w+7) % 8) ((2*((w+3) % 4)+5) % 8)=true:=by decide
theorem f5:∀w<4,mvAdd (2*w) ((2*w+5) % 8) ((2*w+6) % 8)=true:=by decide
theorem f6:∀w<4,mvNil (2*w) ((2*w+4) % 8)=true:=by decide
theorem f7:∀w<4,(2*((w+1) % 4)+5) % 8=(2*w+7) % 8:=by decide
theorem f8:∀w<4,(2*((w+1) % 4)+4) % 8=(2*w+6) % 8:=by decide
theorem odd7(w:Nat):(2*w+7) % 8 % 2=1:=by lia
theorem zcW{C:Cell -> Bool}{e:Edge}(h:IsE C e) :
  (C (go e.c ((2*e.w+7) % 8))=true/\stepB C e=some ((2*e.w+7) % 8)/\nxt C e=⟨go e.c ((2*e.w+7) % 8),(e.w+3) % 4⟩) ∨
  (C (go e.c ((2*e.w+7) % 8))=false/\C (go e.c (2*e.w))=true/\stepB C e=some (2*e.w)/\nxt C e=⟨go e.c (2*e.w),e.w⟩) ∨
  (C (go e.c ((2*e.w+7) % 8))=false/\C (go e.c (2*e.w))=false/\stepB C e=none/\nxt C e=⟨e.c,(e.w+1) % 4⟩):=by
 unfold nxt stepB
 by_cases h1:C (go e.c ((2*e.w+7) % 8))=true
 .left;rw[if_pos h1];exact⟨h1,rfl,by simp only[edgeB];rw[if_pos (odd7 _)]⟩
 .right;have h1':C (go e.c ((2*e.w+7) % 8))=false:=by simpa using h1
  rw[if_neg h1]
  by_cases h2:C (go e.c (2*e.w))=true
  .left;rw[if_pos h2];exact⟨h1',h2,rfl,by simp only[edgeB];rw[if_neg (by lia)]⟩
  .right;rw[if_neg h2];exact⟨h1',by simpa using h2,rfl,rfl⟩
theorem zkS{C:Cell->Bool}{e:Edge}(h:IsE C e):IsE C (nxt C e):=by
 obtain⟨hw,hc,hg⟩:=id h;rcases zcW h with⟨h1,_,q⟩ |⟨h1,h2,_,q⟩ |⟨h1,h2,_,q⟩ <;> rw[q]
 .refine⟨Bj _ (by decide),h1,?_⟩;unfold gap;rw[go_go (f1 _ hw)];exact hg
 .refine⟨hw,h2,?_⟩;unfold gap;rw[go_go (f2 _ hw)];exact h1
 .refine⟨Bj _ (by decide),hc,?_⟩;unfold gap;simp only;rw[f3 _ hw];exact h2
theorem zi7{C:Cell->Bool}{e:Edge}(h:IsE C e):prv C (nxt C e)=e:=by
 obtain⟨hw,hc,hg⟩:=id h;unfold gap at hg;rcases zcW h with⟨h1,_,q⟩ |⟨h1,h2,_,q⟩ |⟨h1,h2,_,q⟩ <;> rw[q] <;> unfold prv <;> simp only
 .rw[zjE (f4 _ hw),if_pos hc];rw[show ((e.w+3) % 4+1) % 4=e.w by lia]
 .rw[go_go (f5 _ hw),hg,if_neg (by decide),zjE (f6 _ hw),if_pos hc]
 .rw[f7 _ hw,h1,if_neg (by decide),f8 _ hw,hg,if_neg (by decide)];rw[show ((e.w+1) % 4+3) % 4=e.w by lia]
theorem zg6{C:Cell->Bool}{e f:Edge}(he:IsE C e)(hf:IsE C f)(h:nxt C e=nxt C f):e=f:=by rw[<- zi7 he,<- zi7 hf,h]
noncomputable def Chain(C:Cell->Bool)(b:Edge)(es:List Edge):Prop:=es[0]?=some b/\(∀i e f,es[i]?=some e->es[i+1]?=some f->f=nxt C e)/\(∀e∈es,IsE C e)/\es.Nodup
theorem Chain.start{C:Cell->Bool}{b:Edge}(h:IsE C b):Chain C b [b] :=
 ⟨rfl,λi e f _ h2=>by simp at h2,λe he=>by rw[Ah.mp he];exact h,by simp⟩
theorem Chain.more{C:Cell->Bool}{b l:Edge}{es:List Edge}(h:Chain C b (es++[l]))(hn:nxt C l≠b):Chain C b ((es++[l])++[nxt C l]):=by
 obtain⟨h0,hs,hE,hnd⟩:=h;have hl:(es++[l])[es.length]?=some l:=by simp
 have lE:=hE l (by simp);refine⟨?_,λi e f h1 h2=>?_,λe he=>?_,?_⟩
 .rw[Ar (by simp)];exact h0
 .rcases A8 (i+1) (es++[l]).length with hi |hi
  .rw[Ar (by lia)]at h1;rw[Ar hi]at h2;exact hs i e f h1 h2
  .have hi2:=(Ac.mp h2).1;simp at hi2 hi;have hi3:i=es.length:=by lia
   subst hi3;rw[Ar (by simp)]at h1;rw[hl]at h1
   cases h1
   rw[AJ (by simp)]at h2;simp at h2;exact h2.symm
 .rcases Aj.mp he with he |he
  .exact hE e he
  .rw[Ah.mp he];exact zkS lE
 .rw[Dc];refine⟨hnd,by simp,λx hx y hy=>?_⟩;rw[Ah.mp hy];intro e;subst e;obtain⟨i,hi,ei⟩:=AR hx;rcases BF i with rfl |hp
  .rw[Aa hi,ei]at h0;exact hn (AW h0)
  .have hi':i-1<(es++[l]).length:=by lia
   have e1:=hs (i-1) ((es++[l])[i-1]) (nxt C l) (Aa hi') (by rw[show i-1+1=i by lia,Aa hi,ei]);have e2:=zg6 lE (hE _ (A3 hi')) e1;have e3:es.length=i-1:=(List.getElem?_inj (by simp) hnd).mp (by rw[hl,Aa hi',<- e2]);simp at hi;lia
theorem za4{α:Type} [DecidableEq α]:∀{a b:List α},a.Nodup->(∀x∈a,x∈b)->a.length<=b.length
 |[],_,_,_=>Be _
 |x::a,b,hn,hs=>by
  have hx:x∈b:=hs x AE
  have h1:=za4 (a:=a) (b:=b.erase x) (B4.mp hn).2 (λy hy=>by refine (List.mem_erase_of_ne ?_).mpr (hs y (Az _ hy));intro e;subst e;exact (B4.mp hn).1 hy)
  rw[List.length_erase_of_mem hx]at h1;have:0<b.length:=List.length_pos_of_mem hx;simp only[AS];lia
noncomputable def sides(cs:List Cell):List Edge:=cs.flatMap λc=>(BD 4).map λw=>⟨c,w⟩
theorem zbt(cs:List Cell):(sides cs).length=4*cs.length:=by
 unfold sides
 induction cs with
 |nil=>rfl
 |cons c r ih=>rw[List.flatMap_cons,Af,ih];simp;lia
theorem zcX{cs:List Cell}{e:Edge}:e∈sides cs ↔ e.c∈cs/\e.w<4:=by
 unfold sides;rw[List.mem_flatMap];constructor
 .rintro⟨c,hc,h⟩;obtain⟨w,hw,rfl⟩:=Bp.mp h;exact⟨hc,List.mem_range.mp hw⟩
 .rintro⟨hc,hw⟩;exact⟨e.c,hc,Bp.mpr ⟨e.w,List.mem_range.mpr hw,rfl⟩⟩
noncomputable def isIn(cs:List Cell)(c:Cell):Bool:=decide (c∈cs)
theorem Chain.short{cs:List Cell}{b:Edge}{es:List Edge}(h:Chain (isIn cs) b es):es.length<=4*cs.length:=by rw[<- zbt];exact za4 h.2.2.2 λe he=>zcX.mpr ⟨of_decide_eq_true (h.2.2.1 e he).2.1,(h.2.2.1 e he).1⟩
noncomputable def allE(cs:List Cell):List Edge:=(sides cs).filter λe=>!isIn cs (gap e)
theorem zdE{cs:List Cell}{e:Edge}:e∈allE cs ↔ IsE (isIn cs) e:=by
 unfold allE;rw[List.mem_filter,zcX];unfold IsE isIn;constructor
 .rintro⟨⟨h1,h2⟩,h3⟩;exact⟨h2,decide_eq_true h1,by simpa using h3⟩
 .rintro⟨h1,h2,h3⟩;exact⟨⟨of_decide_eq_true h2,h1⟩,by simpa using h3⟩
noncomputable def dx(w:Nat):Int:=if w=0 then 1 else if w=2 then -1 else 0
noncomputable def dy(w:Nat):Int:=if w=1 then 1 else if w=3 then -1 else 0
noncomputable def px(e:Edge):Int:=e.c.1+(if e.w=1∨e.w=2 then 1 else 0)
noncomputable def py(e:Edge):Int:=e.c.2+(if e.w=2∨e.w=3 then 1 else 0)
theorem zkM{C:Cell->Bool}{e:Edge}(h:IsE C e):px (nxt C e)=px e+dx e.w/\py (nxt C e)=py e+dy e.w:=by
 have hw:=h.1
 rcases zcW h with⟨_,_,q⟩ |⟨_,_,_,q⟩ |⟨_,_,_,q⟩ <;> rw[q] <;> obtain⟨c,w⟩:=e <;> simp only at hw <;>
  rcases way4 hw with rfl |rfl |rfl |rfl <;> simp[px,py,dx,dy,go,mv] <;> lia
theorem zlP{C:Cell->Bool}{e:Edge}(h:IsE C e):(nxt C e).w=(e.w+3) % 4∨(nxt C e).w=e.w∨(nxt C e).w=(e.w+1) % 4:=by
 rcases zcW h with⟨_,_,q⟩ |⟨_,_,_,q⟩ |⟨_,_,_,q⟩ <;> rw[q]
 .exact .inl rfl
 .exact .inr (.inl rfl)
 .exact .inr (.inr rfl)
noncomputable def Closed(C:Cell->Bool)(b:Edge)(es:List Edge):Prop:=Chain C b es/\∃l,es[es.length-1]?=some l/\nxt C l=b
theorem psum{C:Cell->Bool}{b:Edge}{es:List Edge}(h:Chain C b es):∀i e,es[i]?=some e->px e=px b+((es.take i).map λe=>dx e.w).sum/\py e=py b+((es.take i).map λe=>dy e.w).sum
 | 0,e,he=>by
  have h0:=h.1;rw[he]at h0
  cases h0
  simp
 |i+1,e,he=>by
  have hi:i+1<es.length:=(Ac.mp he).1;have h1:es[i]?=some es[i]:=Aa (by lia)
  obtain⟨a,c⟩:=psum h i _ h1;have hn:=h.2.1 i _ e h1 he;obtain⟨p,q⟩:=zkM (h.2.2.1 _ (A3 (show i<es.length by lia)));rw[<- hn]at p q;rw[List.take_succ,h1];simp only[Option.toList_some,Bc,Cc,List.map_nil,List.sum_append,List.sum_cons,List.sum_nil];lia
theorem Closed.sums{C:Cell->Bool}{b:Edge}{es:List Edge}(h:Closed C b es):(es.map λe=>dx e.w).sum=0/\(es.map λe=>dy e.w).sum=0:=by
 obtain⟨hc,l,hl,hb⟩:=h;have hlt:=(Ac.mp hl).1;obtain⟨a,c⟩:=psum hc _ l hl;have hlm:=(Ac.mp hl).2;obtain⟨p,q⟩:=zkM (hc.2.2.1 l (by rw[<- hlm];exact A3 _));rw[hb]at p q
 have e:es=es.take (es.length-1)++[l]:=by have:=List.take_succ (l:=es) (i:=es.length-1);rw[hl,show es.length-1+1=es.length by lia,AL]at this;simpa using this
 have s1:(es.map λe=>dx e.w).sum=((es.take (es.length-1)).map λe=>dx e.w).sum+dx l.w:=by
  conv=>lhs;rw[e]
  simp
 have s2:(es.map λe=>dy e.w).sum=((es.take (es.length-1)).map λe=>dy e.w).sum+dy l.w:=by
  conv=>lhs;rw[e]
  simp
 lia
theorem zh6{l:List Int}(h:∀x∈l,0<=x):0<=l.sum:=by
 induction l with
 |nil=>simp
 |cons a r ih =>
  have:=h a AE;have:=ih λx hx=>h x (Az _ hx)
  simp only[List.sum_cons];lia
theorem zho{l:List Int}(h:∀x∈l,0<=x)(hs:l.sum=0):∀x∈l,x=0:=by
 induction l with
 |nil=>intro x hx;cases hx
 |cons a r ih =>
  have h1:=h a AE;have h2:=zh6 λx hx=>h x (Az _ hx)
  simp only[List.sum_cons]at hs;intro x hx;rcases Av.mp hx with rfl |hx
  .lia
  .exact ih (λx hx=>h x (Az _ hx)) (by lia) x hx
theorem zlx(l:List Int):(l.map λx=>-x).sum=-l.sum:=by
 induction l with
 |nil=>rfl
 |cons a r ih=>simp only[Cc,List.sum_cons,ih];lia
theorem zjN(l:List Int)(d:Int)(h:∀x∈l,x=d):l.sum=d*l.length:=by
 induction l with
 |nil=>simp
 |cons a r ih =>
  have h1:=h a AE;have h2:=ih λx hx=>h x (Az _ hx)
  simp only[List.sum_cons,AS,h1,h2];rw[Int.natCast_add,Int.mul_add];lia
theorem Closed.has{C:Cell->Bool}{b:Edge}{es:List Edge}(h:Closed C b es){k:Nat}(hk:k=0∨k=2):∃e∈es,e.w=k:=by
 apply Classical.byContradiction
 intro hno;have hno':∀e∈es,e.w≠k:=λe he z=>hno ⟨e,he,z⟩
 obtain⟨s1,s2⟩:=h.sums;obtain⟨hc,_⟩:=h
 have hpos:0<es.length:=by have:=hc.1;exact (Ac.mp this).1
 have z:∀e∈es,dx e.w=0:=by
  rcases hk with rfl |rfl
  .have := zho (l := (es.map λe => dx e.w).map λx => -x) (λx hx => by obtain⟨y,hy,rfl⟩:=Bp.mp hx;obtain⟨e,he,rfl⟩:=Bp.mp hy;have:=hno' e he;unfold dx;rw[if_neg this];split <;> decide) (by rw[zlx,s1];rfl)
   intro e he;have:=this (-(dx e.w)) (Bp.mpr ⟨_,Bp.mpr ⟨e,he,rfl⟩,rfl⟩);lia
  .have := zho (l := es.map λe => dx e.w) (λx hx => by obtain⟨e,he,rfl⟩:=Bp.mp hx;have:=hno' e he;unfold dx;rw[if_neg this];split <;> decide) s1
   intro e he;exact this _ (Bp.mpr ⟨e,he,rfl⟩)
 have odd:∀e∈es,e.w=1∨e.w=3:=λe he=>by
  have h4:=(hc.2.2.1 e he).1;have hz:=z e he;rcases way4 h4 with q |q |q |q
  .rw[q]at hz;exact absurd hz (by decide)
  .exact .inl q
  .rw[q]at hz;exact absurd hz (by decide)
  .exact .inr q
 have same:∀(i:Nat) (e:Edge),es[i]?=some e->e.w=b.w:=by
  intro i
  induction i with
  |zero=>intro e he;have:=hc.1;rw[he]at this;cases this;rfl
  |succ i ih =>
   intro e he;have hi:i+1<es.length:=(Ac.mp he).1;have h1:es[i]?=some es[i]:=Aa (by lia)
   have hn:=hc.2.1 i _ e h1 he;have m1:es[i]∈es:=A3 _;have m2:e∈es:=As he;have w1:=ih _ h1;have o1:=odd _ m1;have o2:=odd _ m2;have:=zlP (hc.2.2.1 _ m1);rw[<- hn]at this;lia
 have all:∀x∈es.map (λe=>dy e.w),x=dy b.w:=λx hx=>by obtain⟨e,he,rfl⟩:=Bp.mp hx;obtain⟨i,hi,ei⟩:=AR he;rw[same i e (by rw[Aa hi,ei])]
 have t:=zjN _ _ all;rw[s2,Am]at t
 have ob:b.w=1∨b.w=3:=by have:=hc.1;exact odd b (As this)
 have d1:dy b.w=1∨dy b.w=-1:=by rcases ob with q |q <;> rw[q] <;> decide
 rcases d1 with q |q <;> rw[q]at t <;> lia
end RP
namespace L2
open PySem PySem.Spec PyProof.Rows
structure Fn (P:AF) (w:A4) (K:W.Frag) (mg:Str->Option Value) (base:Heap) (k:Nat) (x:Str) (ps:List Str) (sp:Sp) where
 f:Addr
 fd:Bv
 ok:FnOk P w K mg base CX0 k f fd ps sp
 m:mg x=some (.ref f)
 kp:Dd K (.ref f)=true
 b:Binds K fd ps []
structure Df (K:W.Frag) (mg:Str->Option Value) (x:Str) (st:Stmt) (ps:List Str) where
 f:Addr
 fd:Bv
 F:Fun K x x st f fd
 m:mg x=some (.ref f)
 b:Binds K fd ps []
noncomputable def Df.fn{P:AF}{w:A4}{K:W.Frag}{mg:Str->Option Value}{base:Heap}{k:Nat}{x:Str}{st:Stmt}{ps:List Str}{sp:Sp}(d:Df K mg x st ps)(h:FnOk P w K mg base CX0 k d.f d.fd ps sp):Fn P w K mg base k x ps sp :=
 ⟨d.f,d.fd,h,d.m,d.F.kp,d.b⟩
structure Ways (P:AF) (w:A4) (K:W.Frag) (mg:Str->Option Value):Prop where
 ex:∃(B:Addr) (t1 t2 t3 t4:Tok) (n:Nat),mg "BEGIN_WAYS" = some (.ref B)/\K.lookup B=some ⟨.type "dict",none,.dict #[⟨BN w.params "rim",.str "rim" t1,.int 0 t2⟩,⟨BN w.params "hole",.str "hole" t3,.int 2 t4⟩] n,#[]⟩
noncomputable def tWays (ti:TE):TE:=λσ H Q=>ti σ H λy H1=>(y=.str "rim" /\ Q (.int 0) H1)∨(y=.str "hole" /\ Q (.int 2) H1)
theorem zln {X:Cx}{i:Expr}{ti:TE}{p pos:Pos}(hg:Gl X "BEGIN_WAYS") (hw:Ways X.prog X.w X.K X.mg) (hi:PE X i ti) (hs:NoSl i:=by exact λ_ _=>rfl):PE X (.Subscript (.Name "BEGIN_WAYS" p) i pos) (tWays ti):=by
 intro pins s σ H Q I h;obtain⟨B,t1,t2,t3,t4,n,hm,hl⟩:=hw.ex;refine ziD PySem.F.slot_dict_getitem.lookup hs (thn ((zdY (v:=.ref B) hg hm rfl:PE X (.Name "BEGIN_WAYS" p) _) pins s σ H (λv H1=>v=V.ref B/\H1=H) I ⟨rfl,rfl⟩) λu s1 ⟨x,H1,I1,rx,q1⟩=>?_);obtain⟨rfl,rfl⟩:=q1;obtain rfl:u=At B:=rx;refine thn (hi pins s1 σ H1 _ I1 h) λiv s2 ⟨y,H2,I2,ry,q2⟩=>?_
 have ho:s2.heap.get? B=some _:=I2.kIn B _ hl
 have mo:s2.heap.MapOf (zaU X.prog X.w) B (PySem.findBy (zaU X.prog X.w).is #[⟨BN X.w.params "rim",.str "rim" t1,.int 0 t2⟩,⟨BN X.w.params "hole",.str "hole" t3,.int 2 t4⟩]) :=
  ⟨_,_,_,ho,⟨rfl,rfl,rfl⟩,rfl,λe he=>by
   simp only[List.mem_toArray,Av,Dk,or_false]at he;rcases he with rfl |rfl
   .exact⟨.inr "rim",zbL _ _ _ _,rfl⟩
   .exact⟨.inr "hole",zbL _ _ _ _,rfl⟩,λ_=>rfl⟩
 refine⟨⟨_,ho,rfl⟩,?_⟩;rcases q2 with⟨rfl,q⟩ |⟨rfl,q⟩
 .exact wpAny_getItem_of (kV_is (k:=.inr "rim") ry) mo (v:=.int 0 t2) rfl ⟨.int 0,H2,I2.tok _,⟨_,rfl⟩,q⟩
 .exact wpAny_getItem_of (kV_is (k:=.inr "hole") ry) mo (v:=.int 2 t4) rfl ⟨.int 2,H2,I2.tok _,⟨_,rfl⟩,q⟩
section
variable {X:Cx}{K:W.Frag}
theorem zhb(hK:X.K=K:=by rfl):IxR X (rIxT K):=by subst hK;exact zat
theorem zkl(hK:X.K=K:=by rfl):IxR X (rIxL K):=by subst hK;exact zaE
theorem zgE (hK:X.K=K:=by rfl):CallR X (.builtin "isinstance") (λxs H Q=>∃x T t b,xs=[x,.ty T]/\TyOf K H x t/\W.kitOne K t (.type T)=some b/\Q (.bl b) H):=by subst hK;exact zfN
theorem zls(hu:X.A.units<cLine)(hK:X.K=K:=by rfl):OpR X (Bu .Lt) (rLtT K):=by subst hK;exact zmb hu
theorem zeU(hK:X.K=K:=by rfl):OpR X (Bu .In) (rIn K false):=by subst hK;exact zje
theorem zcK{es:List Expr}{k:Nat}{t:TGs}{n:Nat}{pos:Pos}(hc:X.calm=true)(h:PGs X es t)
  (hn:(Dz es X.env).length=n:=by rfl) (hst:(Dz es X.env).findIdx? (·.1)=none:=by rfl) (hK:X.K=K:=by rfl):PG X (.Tuple es k pos) (gTup K n t):=by
 subst hK;exact zbl hc h hn hst
end
theorem zjt (a b c d:Value):argsOk "min" ⟨[a,b,c,d],[]⟩:=by unfold argsOk;kernel_rfl
section
variable {X:Cx}
theorem zjQ (hc:X.calm=true):CallR X (.builtin "min") (λxs H Q=>∃i j k l,xs=[.int i,.int j,.int k,.int l]/\∀n,Q (.int n) H):=by
 intro pins s σ H xs us Q I r h;obtain⟨i,j,k,l,rfl,q⟩:=h
 cases r with
 |cons r1 r =>
 cases r with
 |cons r2 r =>
 cases r with
 |cons r3 r =>
 cases r with
 |cons r4 r =>
 cases r with
 |nil =>
 obtain⟨t1,rfl⟩:=r1;obtain⟨t2,rfl⟩:=r2;obtain⟨t3,rfl⟩:=r3;obtain⟨t4,rfl⟩:=r4;have hh:=I.ok.hd hc;have nm:(toString "min" ++ toString ".loop" : String) = "min.loop":=by decide
 refine call_function_tree F.kind_min F.plain_min F.entry_min (zjt _ _ _ _) ?_
 show Au _ X.A.in1 (Cm "min" ["key","default"] 0 ⟨[],[]⟩ >>= _) _ _ s;refine Ad (wpAny_of_eq (show Cm "min" ["key","default"] 0 ⟨[],[]⟩=pure [none,none] from rfl) ?_);show Au _ X.A.in1 (newTuple [.int i t1,.int j t2,.int k t3,.int l t4] >>= _) _ _ s;refine Ad (BM ?_);have hT:(s.heap.push { cls:=.type "tuple",data:=.seq #[.int i t1,.int j t2,.int k t3,.int l t4] }).IsTuple s.heap.objs.size (intItems #[(i,t1),(j,t2),(k,t3),(l,t4)]):=⟨_,AU _ rfl,rfl,0,by simp[intItems]⟩;refine Ad (wpAny_pyIter_tuple hT ?_);refine Ad (BM ?_);rw[nm];generalize e1:s.heap.push { cls:=.type "tuple",data:=.seq #[.int i t1,.int j t2,.int k t3,.int l t4] }=h1 at hT;have hs1:h1.objs.size=s.heap.objs.size+1:=by rw[<- e1];exact Heap.size_push ..
 have k1:∀b o,s.heap.get? b=some o->h1.get? b=some o:=λb o e=>by rw[<- e1];exact Al _ e
 show Au (AA X.prog X.w) X.A.in1 (again (.builtin "min.loop" ⟨[.ref h1.objs.size,.none,.ref (h1.push _).objs.size],[]⟩)) _ _ { s with heap:=(h1.push _).push _ };have hs2:∀o:Obj,(h1.push o).objs.size=s.heap.objs.size+2:=λo=>by rw[Heap.size_push,hs1]
 have W:=Walks.tuple (prog:=X.prog) (w:=X.w) (A:=X.A.in1) hh h1.objs.size s.heap.objs.size (by rw[hs1];exact A9 (Nat.lt_succ_self _)) (intItems #[(i,t1),(j,t2),(k,t3),(l,t4)])
 refine An ⟨plainId_quiet F.plain_min_loop _,codeAny_min_loop_first W _ (CmpOf.ints_lt (numAt #[(i,t1),(j,t2),(k,t3),(l,t4)]) (λ_ _=>intItems_at)) _ (λhm=>?_) (by simp[intItems])
  (W.frame _ _ _ ⟨⟨_,AU _ rfl,rfl,rfl⟩,hT.push _⟩ λb _ o e=>Al _ e) (AU _ rfl) λv h' tk hP hk=>?_⟩
 .rw[hs2]at hm;rcases Av.mp hm with z |z
  .rw[hs1]at z;have z':(s.heap.objs.size+2:Nat)=s.heap.objs.size+1:=z;lia
  .have z':(s.heap.objs.size+2:Nat)=s.heap.objs.size:=Ah.mp z;lia
 .obtain⟨t,ht⟩:=intItems_at hP;refine⟨.int _,H,I.kept λb o e=>hk b o (λhm=>?_) ?_ (Al _ (Al _ (k1 b o e))),⟨t,ht⟩,q _⟩
  .have h1':=AD e;have z:=Ah.mp hm;rw[hs1]at z;subst z;exact absurd h1' (Nat.not_lt_of_le (CT _))
  .have h1':=AD e;intro z;rw[hs2]at z;subst z;exact absurd h1' (Nat.not_lt_of_le (Nat.le_add_right _ 2))
noncomputable def rSlTW(K:W.Frag):V->Option Int->Option Int->Hp->VK->Prop:=λx lo hi H Q=>∃a xs,x=.ref a/\SqT K H a xs /\
 ((HT.sIx xs.length 0 lo=0/\HT.sIx xs.length xs.length hi=xs.length)->Q (.ref a) H) /\
 (¬ (HT.sIx xs.length 0 lo=0/\HT.sIx xs.length xs.length hi=xs.length)->∀p,H p=none->Q (.ref p) (upd H p (.tup (cutV xs lo hi))))
end
end L2
namespace HT
open PySem PyProof.Rows
variable {prog:AF}{w:A4}{A:AQ}{E:Value->Ab->Prop}{s:Ab}
theorem getItem_tuple_all{t sl:Addr}{items:Array Value}{vl vu:Value}{lo hi:Option Int}{Q:Value -> Ab -> Prop}(ht:IsTup s.heap t items)(hs:s.heap.IsSliceOf sl vl vu .none)(pl:IsPart vl lo)(pu:IsPart vu hi)
  (hw:sIx items.size 0 lo=0/\sIx items.size items.size hi=items.size) (h:Q (.ref t) s):Au (AA prog w) A (getItem (.ref t) (.ref sl)) Q E s:=by
 obtain⟨os,hos,hcs,hds⟩:=id hs;have hTs:s.TypeIs (.ref sl) "slice":=⟨os,hos,hcs⟩;unfold getItem
 try with_reducible refine By ?_
 first |refine Ad (An ?_) |skip
 refine Ad (wpAny_sequenceKey ht.typeIs (by decide) ?_)
 refine Ad (wpAny_callSpecial?_slot (name:=BW "__getitem__") ht.typeIs Bw
  (wpAny_call_entry Bw ht.typeIs entry_tuple_getitem ?_ (args_tuple_getitem _ _)))
 show Au _ _ (Builtin.Tuple.tupleItemsOf (.ref t) >>= _) _ _ s;refine Ad (tupleItemsOf_ ht ?_);refine Ad (wpAny_typeOf hTs ?_);rw[if_pos (by decide)];refine Ad (zcg hs pl pu ?_)
 have hyes:(((sIx items.size 0 lo:Nat):Int) == 0 && (1:Int) == 1 && (sIx items.size items.size hi-sIx items.size 0 lo) == items.size)=true:=by rw[hw.1,hw.2];simp
 show Au _ _ (if (((sIx items.size 0 lo:Nat):Int) == 0 && (1:Int) == 1 && (sIx items.size items.size hi-sIx items.size 0 lo) == items.size)=true then _ else _) _ _ s;rw[if_pos hyes];refine Ad ?_
 unfold Builtin.Tuple.tupleIsExact;refine Ad (wpAny_typeOf ht.typeIs (An ?_));rw[if_pos (by decide)];exact Ad (CO (An ⟨_,rfl,An h⟩))
end HT
namespace L2
open PySem PySem.Spec PyProof.Rows
section
variable {X:Cx}{K:W.Frag}
theorem zgU:SlR X (rSlTW X.K):=by
 intro pins s σ H x v vl vu lo hi sl Q I rx hs pl pu h;obtain⟨a,xs,rfl,hx,q1,q2⟩:=h
 by_cases hw:HT.sIx xs.length 0 lo=0/\HT.sIx xs.length xs.length hi=xs.length
 .cases rx
  obtain⟨its,r,ht,hz⟩:=I.tuple hx;have hlen:its.toArray.size=xs.length:=by rw[Ap];exact r.length.symm
  refine⟨"tuple",_,Bw.lookup,ht.typeIs,?_⟩;exact HT.getItem_tuple_all ht hs pl pu (by rw[hlen];exact hw) ⟨.ref a,H,I,rfl,q1 hw⟩
 .exact zlX pins s σ H _ v vl vu lo hi sl Q I rx hs pl pu ⟨a,xs,rfl,hx,hw,q2 hw⟩
end
section
variable {prog:AF}{w:A4}{K:Type} [DecidableEq K] {knd:HeapKind prog w K}{A:AQ}{E:Value->Ab->Prop}{s:Ab}{d a:Addr}{xs:List (K×Addr×Value)}{k:K}{dflt:Value}
theorem zeZ{p:Addr×Value}(h:atKey xs k=some p):∃j:Nat,xs[j]?=some (k,p):=by
 unfold atKey at h;obtain⟨x,hx,e⟩:=BX.mp h;have hm:=List.mem_of_find?_eq_some hx;have hk:=List.find?_some hx;obtain⟨j,hj,ej⟩:=AR hm;have:x.1=k:=by simpa using hk
 exact⟨j,by rw[Aa hj,ej,<- e,<- this]⟩
theorem zky{p:Addr×Value}{j:Nat}(hn:(xs.map λx=>x.1).Nodup)(h:xs[j]?=some (k,p)):atKey xs k=some p:=by
 cases e:atKey xs k with
 |none =>
  exfalso;unfold atKey at e;have:=List.find?_eq_none.mp (Option.map_eq_none_iff.mp e) _ (As h);simp at this
 |some q =>
  obtain⟨i,hi⟩:=zeZ e;have hl:=(Ac.mp hi).1;have:=(List.getElem?_inj (i:=i) (j:=j) (by rw[Am];exact hl) hn).mp (by rw[AI,AI,hi,h];rfl);subst this;rw[hi]at h
  cases h
  rfl
theorem zdN{Q:Value -> Ab -> Prop}(hr:knd.room A)(hk:knd.is s.heap k a)(hD:Heap.DictOfH knd s.heap d xs)(hsz:xs.length <= sizeLine)
  (h1:∀p,atKey xs k=some p->Q p.2 { s with toks:=s.toks+knd.draws k })
  (h2:atKey xs k=none->∀h',Heap.DictOfH knd h' d (storedH xs k a dflt)->CU d s.heap h'->Q dflt { s with heap:=h',toks:=s.toks+knd.draws k }) :
  Au (AA prog w) A (dictSetDefault d (.ref a) dflt) Q E s:=by
 obtain⟨o,es,ep,ho,hx,hd,he,hi,hn⟩:=id hD;unfold dictSetDefault;refine By (Ad (knd.pyHash hr hk ?_));refine Ad (wpAny_dictFind_heap (s:={ s with toks:=s.toks+knd.draws k }) hr hk ho hd he hi hn (λhno=>?_) λj p hj=>?_)
 .have hnone:atKey xs k=none := by
   cases e:atKey xs k with
   |none=>rfl
   |some p=>obtain⟨j,hj⟩:=zeZ e;exact absurd hj (hno j p)
  refine Ad (CO ?_);have hes:es.size=xs.length:=by rw[<- AG,he,Am]
  refine Ad (wpAny_updateDictKeys ho hd (An (h2 hnone _ ?_ ⟨?_,λb hb=>CW _ _ (B8 hb)⟩)) (by lia) (by simp))
  .have hs:CU d s.heap (s.heap.update d (Obj.mapDictKeys λx=>x.push ⟨knd.hash k,.ref a,dflt⟩)):=⟨?_,λb hb=>CW _ _ (B8 hb)⟩
   .obtain⟨c,dd,dt,sl⟩:=o;simp only at hd;subst hd;refine⟨_,es.push ⟨knd.hash k,.ref a,dflt⟩,ep+1,Heap.get?_update_self _ ho rfl,hx,rfl,?_,λx hx'=>?_,?_⟩
    .rw[storedH_new hnone,Bc,<- he];simp[entryOfKey]
    .rw[storedH_new hnone]at hx';rcases Aj.mp hx' with m |m
     .exact knd.keeps (hi x m) ho rfl hs
     .rw[Ah.mp m];exact knd.keeps hk ho rfl hs
    .rw[storedH_new hnone,Bc,Dc];refine⟨hn,by simp,λx hx' y hy e=>?_⟩;simp at hy;subst hy e;obtain⟨⟨k',p⟩,hm,ek⟩:=Bp.mp hx';obtain⟨j,hj,ej⟩:=AR hm;simp only at ek;subst ek;exact hno j p (by rw[Aa hj,ej])
   .show (s.heap.update d _).objs.size=_;unfold Heap.update;simp
  .show (s.heap.update d _).objs.size=_;unfold Heap.update;simp
 .have hlt:=(Ac.mp hj).1;have hes:es.size=xs.length:=by rw[<- AG,he,Am]
  have ee:es[j]?=some ⟨knd.hash k,.ref p.1,p.2⟩:=by rw[<- Bi,he,AI,hj];rfl
  refine Ad (wpAny_dictEntries ho hd ?_);simp only[ee];refine Ad (CO (An ?_));exact h1 p (zky hn hj)
theorem zdg(knd:HeapKind prog w K)(d a:Addr)(hd:(d == Cq)=false)(dflt:Value) :
  MeetsIn prog w (Builtin.«dict.setdefault» ⟨[.ref d,.ref a,dflt],[]⟩) λA R s=>knd.room A.in1/\∃k xs,knd.is s.heap k a/\Heap.DictOfH knd s.heap d xs/\xs.length<=sizeLine /\
   (∀p,atKey xs k=some p->R (.ok (.ret p.2)) { s with toks:=s.toks+knd.draws k }) /\
   (atKey xs k=none->∀h',Heap.DictOfH knd h' d (storedH xs k a dflt)->CU d s.heap h'->R (.ok (.ret dflt)) { s with heap:=h',toks:=s.toks+knd.draws k }):=by
 intro A R s h;obtain⟨hr,k,xs,hk,hD,hsz,h1,h2⟩:=h;unfold Builtin.«dict.setdefault» Builtin.Dict.keyAndDefault;have ht:s.TypeIs (.ref d) "dict":=hD.typeIs;refine Ad (Ad (wpAny_notOrdered_dict ht ?_));refine Ad ?_
 show Au (AA prog w) A.in1 (pure ()) _ _ s;refine An ?_
 refine Ad ?_
 show Au (AA prog w) A.in1 (pure (At d,[At a,dflt])) _ _ s;refine An ?_
 show Au (AA prog w) A.in1 (pure d >>= λx=>pure (x,At a,some dflt)) _ _ s;refine Ad (An (An ?_));simp only;rw[hd];show Au (AA prog w) A.in1 (dictSetDefault d (.ref a) dflt >>= λx=>ret x) _ _ s;refine Ad (zdN hr hk hD hsz (λp e=>An (h1 p e)) λe h' hD' hs=>An (h2 e h' hD' hs))
noncomputable def zlU(td ty tx:TE):TE:=λσ H Q=>td σ H λx H1=>∃a,x=.ref a/\IsD H1 a/\ty σ H1 λy H2=>tx σ H2 λz H3=>∃kvs k b,H3 a=some (.dT kvs)/\y=.ref b/\H3 b=some (.tup (k.map kV))/\kvs.length<sizeLine /\
 (∀v,valV kvs k=some v->Q v H3)/\(valV kvs k=none->Q z (upd H3 a (.dT (putK kvs k z))))
end
section
variable {X:Cx}{o e f:Expr}{apos cpos:Pos}{td ty tx:TE}
theorem zj9 (hu:X.A.units+1<cLine) (ho:PE X o td) (he:PE X e ty) (hf:PE X f tx) (m:M2 X o "setdefault" apos e f cpos):PE X (.Call (.Attribute o "setdefault" apos) [e,f] [] cpos) (zlU td ty tx):=by
 intro pins s σ H Q I h;refine wpAny_Call_method m.base m.few m.line PySem.F.plainAttrs_dict PySem.F.slot_dict_setdefault PySem.F.type_dict_setdefault (thn (ho pins s σ H _ I h) λu s1 ⟨x,H1,I1,rx,a,ex,d,q1⟩=>?_);subst ex;obtain rfl:u=At a:=rx;obtain⟨t1,t2,_⟩:=zml I1 d;refine⟨t1,t2,?_⟩;rw[m.trees]
 refine Calls.callWith_builtin rfl (Calls.evalArgs_plain (Calls.spliced_cons (thn (he pins s1 σ H1 _ I1 q1) λiv s2 ⟨y,H2,I2,ry,q2⟩ =>
  Calls.spliced_cons (thn (hf pins s2 σ H2 _ I2 q2) λfv s3 ⟨z,H3,I3,rz,kvs,k,b,eD,ey,eb,hl,k1,k2⟩=>Calls.spliced_nil ?_))))
 subst ey
 cases (show iv=At b from ry)
 obtain⟨zz,hd,xs,rel,dd⟩:=dt_of I3.hok eD
 refine call_meetsIn PySem.F.slot_dict_setdefault dd.typeIs PySem.F.entry_dict_setdefault (PySem.F.args_dict_setdefault_3 _ _ _) (zdg (tupleKind (zaU X.prog X.w)) a b hd fv)
  ⟨DB hu,k,xs,zeW I3.hok eb,dd,by rw[<- Dp rel];exact zz,λp ep=>?_,λen h' dd' hs=>?_⟩
 .have rv:=rel.val k;rw[ep]at rv
  cases hv:valV kvs k with
  |none=>rw[hv]at rv;exact BI rv
  |some v=>rw[hv]at rv;exact⟨v,H3,I3.tok _,rv,k1 v hv⟩
 .have hn:valV kvs k=none := by
   have rv:=(rel.val k).isSome_eq;rw[en]at rv
   cases hv:valV kvs k with
   |none=>rfl
   |some v=>rw[hv]at rv;exact absurd rv (by simp)
  have hz:(putK kvs k z).length<=sizeLine:=by have:=zaV kvs k z;lia
  obtain⟨q,es,ep,hq,h2,h3,h4,_,h5⟩:=dd';refine⟨z,_,?_,rz,k2 hn⟩;refine zee I3 (by rw[eD];exact Cr) hs ⟨q,hq⟩ ⟨hz,hd,_,(rel.put k eb rz).keeps λc ys ec=>?_,q,es,ep,hq,h2,h3,h4,h5⟩;rw[zam (ne_of ec eD (λz=>nomatch z))];exact ec
end
structure Two (P:AF) (w:A4) (K:W.Frag) (mg:Str->Option Value) (nm:Str) (a b:Int):Prop where
 ex:∃(B:Addr) (t1 t2 t3 t4:Tok) (n:Nat),mg nm=some (.ref B)/\K.lookup B=some ⟨.type "dict",none,.dict #[⟨BN w.params "rim",.str "rim" t1,.int a t2⟩,⟨BN w.params "hole",.str "hole" t3,.int b t4⟩] n,#[]⟩
noncomputable def tTwo (a b:Int) (ti:TE):TE:=λσ H Q=>ti σ H λy H1=>(y=.str "rim" /\ Q (.int a) H1)∨(y=.str "hole" /\ Q (.int b) H1)
theorem zl8 {X:Cx}{nm:Str}{a b:Int}{i:Expr}{ti:TE}{p pos:Pos}(hg:Gl X nm) (hw:Two X.prog X.w X.K X.mg nm a b) (hi:PE X i ti) (hs:NoSl i:=by exact λ_ _=>rfl) (hdb:(nm == ("__debug__" : Str))=false:=by rfl):PE X (.Subscript (.Name nm p) i pos) (tTwo a b ti):=by
 intro pins s σ H Q I h;obtain⟨B,t1,t2,t3,t4,n,hm,hl⟩:=hw.ex;refine ziD PySem.F.slot_dict_getitem.lookup hs (thn ((zdY (v:=.ref B) hg hm rfl (hd:=hdb):PE X (.Name nm p) _) pins s σ H (λv H1=>v=V.ref B/\H1=H) I ⟨rfl,rfl⟩) λu s1 ⟨x,H1,I1,rx,q1⟩=>?_);obtain⟨rfl,rfl⟩:=q1;obtain rfl:u=At B:=rx;refine thn (hi pins s1 σ H1 _ I1 h) λiv s2 ⟨y,H2,I2,ry,q2⟩=>?_
 have ho:s2.heap.get? B=some _:=I2.kIn B _ hl
 have mo:s2.heap.MapOf (zaU X.prog X.w) B (PySem.findBy (zaU X.prog X.w).is #[⟨BN X.w.params "rim",.str "rim" t1,.int a t2⟩,⟨BN X.w.params "hole",.str "hole" t3,.int b t4⟩]) :=
  ⟨_,_,_,ho,⟨rfl,rfl,rfl⟩,rfl,λe he=>by
   simp only[List.mem_toArray,Av,Dk,or_false]at he;rcases he with rfl |rfl
   .exact⟨.inr "rim",zbL _ _ _ _,rfl⟩
   .exact⟨.inr "hole",zbL _ _ _ _,rfl⟩,λ_=>rfl⟩
 refine⟨⟨_,ho,rfl⟩,?_⟩;rcases q2 with⟨rfl,q⟩ |⟨rfl,q⟩
 .exact wpAny_getItem_of (kV_is (k:=.inr "rim") ry) mo (v:=.int a t2) rfl ⟨.int a,H2,I2.tok _,⟨_,rfl⟩,q⟩
 .exact wpAny_getItem_of (kV_is (k:=.inr "hole") ry) mo (v:=.int b t4) rfl ⟨.int b,H2,I2.tok _,⟨_,rfl⟩,q⟩
section
variable {X:Cx}
end
end L2
namespace HT
open PySem PyProof.Rows PySem.Spec
variable {prog:AF}{w:A4}{A:AQ}{E:Value->Ab->Prop}{s:Ab}
theorem cat_tup0{t b:Addr}{ws:List Value}{Q:Value->Ab->Prop}(ht:IsTup s.heap t ([]:List Value).toArray)(hb:IsTup s.heap b ws.toArray)(h1:Q (.ref b) s):Au (AA prog w) A (CD .Add (.ref t) (.ref b)) Q E s:=by
  obtain⟨⟨cls,dd,data,sl⟩,ho,hc,n,hd⟩:=id ht;obtain⟨⟨cls2,dd2,data2,sl2⟩,ho2,hc2,n2,hd2⟩:=id hb;simp only at hc hd hc2 hd2;subst hc hd hc2 hd2
  exact concat_meets ⟨_, ho, rfl⟩ ⟨_, ho2, rfl⟩ noFill_tuple_add seq_tuple_add PySem.F.slot_tuple_add DG (Ds _ _)
      (tuple_addW0 t b _ _ n n2 dd dd2 sl sl2 (by rfl)) ⟨ho,ho2,h1⟩
end HT
namespace L2
open PySem PySem.Spec PyProof.Rows
section
variable {X:Cx}{K:W.Frag}
noncomputable def rCatE(K:W.Frag):R2:=λx y H Q=>∃a b xs ys,x=.ref a/\y=.ref b/\SqT K H a xs/\SqT K H b ys/\xs.length+ys.length<=sizeLine /\
 (xs=[]->Q (.ref b) H)/\(xs≠[]->ys=[]->Q (.ref a) H)/\(xs≠[]->ys≠[]->∀p,H p=none->Q (.ref p) (upd H p (.tup (xs++ys))))
theorem zlu:OpR X (CD .Add) (rCatE X.K):=by
 intro pins s σ H x y v u Q I rx ry h;obtain⟨a,b,xs,ys,rfl,rfl,ha,hb,hz,q0,q1,q2⟩:=h
 by_cases hx:xs=[]
 .subst hx
  cases rx
  cases ry
  obtain⟨its,r1,p1,_⟩:=I.tuple ha;obtain⟨its2,r2,p2,_⟩:=I.tuple hb
  cases r1
  exact HT.cat_tup0 p1 p2 ⟨.ref b,H,I,rfl,q0 rfl⟩
 .exact zjf pins s σ H _ _ v u Q I rx ry ⟨a,b,xs,ys,rfl,rfl,ha,hb,hx,hz,q1 hx,q2 hx⟩
theorem zgF (hh:X.calm=true):CallR X (.builtin "any") (λxs H Q=>∃(p:Addr) (bs:List Bool),xs=[.ref p]/\SqL X.K H p (bs.map V.bl)/\Q (.bl (bs.any id)) H):=by
 intro pins s σ H xs us Q I r h;obtain⟨p,bs,rfl,hq,q⟩:=h;obtain⟨u,rfl,ru⟩:=vals1 r
 cases (show u=At p from ru)
 obtain⟨its,rv,pl,hz⟩:=I.list hq;have hlp:p<s.heap.objs.size:=by obtain⟨o,ho,_⟩:=pl.isList;exact AD ho
 have hlen:its.length=bs.length:=by have:=rv.length;simpa using this.symm
 refine call_any_walk (wpAny_pyIter_list pl.isList ?_);refine⟨_,_,_,_,_,_,λi=>bs.getD i false,rfl,Walks.list (A:=X.A.in1) (I.ok.hd hh) s.heap.objs.size p (A9 hlp) its.toArray,⟨⟨_,AU _ rfl,rfl,rfl⟩,pl.isList.push _⟩,?_,λh' tk hk=>?_⟩
 .intro i v s1 Q1 E1 hv hQ;have hv':its[i]?=some v:=by simpa using hv
  have hi:i<its.length:=(Ac.mp hv').1;obtain⟨w',hw,rw'⟩:=rv.get (i:=i) (x:=V.bl (bs[i]'(by lia))) (by simp[Aa,show i<bs.length by lia]);rw[hv']at hw
  cases hw
  cases (show v=Dy _ from rw')
  refine BL ?_
  have e:bs.getD i false=bs[i]'(by lia):=by simp[AB,show i<bs.length by lia]
  rw[<- e];exact hQ
 .have I1:Inv X pins σ H { s with heap:=h',toks:=tk }:=I.kept λb o e=>hk b o (by simp;exact A9 (AD e)) (Al _ e)
  refine⟨.bl _,H,I1,rfl,?_⟩
  have e:(BD its.toArray.size).any (λi=>bs.getD i false)=bs.any id:=by
   rw[show its.toArray.size=bs.length by simpa using hlen];rw[C3];simp only[List.any_eq_true,List.mem_range,id];constructor
   .rintro⟨i,hi,h⟩;exact⟨bs[i],A3 hi,by simpa[AB,hi]using h⟩
   .rintro⟨b,hb,h⟩;obtain⟨i,hi,e⟩:=AR hb;exact⟨i,hi,by simpa[AB,hi,e]using h⟩
  rw[e];exact q
end
end L2
namespace HT
open PySem PyProof.Rows PySem.Spec
end HT
namespace L2
open PySem PySem.Spec PyProof.Rows
section
variable {X:Cx}{K:W.Frag}
end
section
variable {X:Cx}
end
section
variable {X:Cx}{e es:Expr}{te ts:TE}{pos p2:Pos}
end
section
variable {X:Cx}
end
section
variable {prog:AF}{w:A4}{A:AQ}{R:Result->Ab->Prop}{I:Addr}{fp wr:List Addr}{n:Nat}{P:Nat->Value->Prop}{St:Nat->Heap->Prop}{dv:Value}
end
section
variable {X:Cx}{pins:List (Addr×Obj)}{σ:St}{H0:Hp}{s:Ab}{l:Addr}{Q:VK}
end
section
variable {X:Cx}{p pos kpos kp:Pos}{e:Expr}{te:TE}{d:Int}{kj:Nat}
end
end L2
namespace HT
open PySem PyProof.Rows
variable {prog:AF}{w:A4}{A:AQ}{E:Value->Ab->Prop}{s:Ab}
end HT
namespace L2
open PySem PySem.Spec PyProof.Rows
section
variable {X:Cx}{e es:Expr}{te ts:TE}{pos p2:Pos}
end
end L2
namespace HT
open PySem PyProof.Rows
section
open PySem.SeqAt
open PySem.AutoSeq1 (wpAny_loadPart')
open PySem.MeetsSeq PySem.MeetsSeq2 PySem.MeetsSeq3
end
section
variable {prog:AF}{w:A4}{A:AQ}{E:Value->Ab->Prop}{s:Ab}
end
end HT
namespace L2
open PySem PySem.Spec PyProof.Rows
section
variable {X:Cx}{pos:Pos}
end
section
variable {prog:AF}{w:A4}{A:AQ}{E:Value->Ab->Prop}{s:Ab}{it d:Addr}{i ep:Nat}{es:Array DictEntry}{od:Obj}
end
section
variable {X:Cx}{tg:Expr}
end
section
variable {prog:AF}{w:A4}{K:Type} [DecidableEq K] {knd:HeapKind prog w K}{A:AQ}{E:Value->Ab->Prop}{s:Ab}{d a:Addr}{xs:List (K×Addr×Value)}{k:K}
end
section
variable {X:Cx}{o e f:Expr}{apos cpos:Pos}{td ty tx:TE}
end
end L2
namespace RP
end RP
namespace L2
open PySem PySem.Spec PyProof.Rows
section
variable {X:Cx}
end
end L2
namespace HT
open PySem PyProof.Rows
variable {prog:AF}{w:A4}{A:AQ}{E:Value->Ab->Prop}{s:Ab}
end HT
namespace L2
open PySem PySem.Spec PyProof.Rows
section
variable {X:Cx}{e es:Expr}{te ts:TE}{pos p2:Pos}
end
section
variable {prog:AF}{w:A4}{A:AQ}{E:Value->Ab->Prop}{s:Ab}
end
section
variable {X:Cx}
end
section
variable {X:Cx}
end
section
variable {prog:AF}{w:A4}{A:AQ}{E:Value->Ab->Prop}{s:Ab}
end
section
variable {X:Cx}{pins:List (Addr×Obj)}{σ:St}
end
section
variable {X:Cx}{l m:Expr}{t:TA}{p p2 pos pos2:Pos}
end
section
variable {X:Cx}{a:Expr}{t:TA}{p p2 pos pos2:Pos}
end
section
variable {X:Cx}
end
section
variable {X:Cx}{tg:Expr}
end
section
variable {X:Cx}{pos:Pos}{kx vx:Expr}{tk tv:TE}
end
open AutoSeq1 (wpAny_loadPart')
section
variable {prog:AF}{w:A4}{A:AQ}{E:Value->Ab->Prop}{s:Ab}{d:Addr}{ep:Nat}{es:Array DictEntry}{od:Obj}
end
section
variable {X:Cx}
end
section
variable {X:Cx}{es:List Expr}{te:TE}{t:TA}{pos:Pos}
theorem pa_T{l:List Expr}{k:Nat}(ha:PE X (.Tuple l k pos) te)(hr:PA X es t):PA X (.Tuple l k pos::es) (tCons te t):=zag ha hr (by rfl)
theorem pa_C{c:Const}{k:Nat}(ha:PE X (.Constant c k pos) te)(hr:PA X es t):PA X (.Constant c k pos::es) (tCons te t):=zag ha hr (by rfl)
theorem pa_U{o:UnaryOp}{a:Expr}(ha:PE X (.UnaryOp o a pos) te)(hr:PA X es t):PA X (.UnaryOp o a pos::es) (tCons te t):=zag ha hr (by rfl)
theorem pa_B{a b:Expr}{o:Operator}(ha:PE X (.BinOp a o b pos) te)(hr:PA X es t):PA X (.BinOp a o b pos::es) (tCons te t):=zag ha hr (by rfl)
theorem pa_N{x:Str}(ha:PE X (.Name x pos) te)(hr:PA X es t):PA X (.Name x pos::es) (tCons te t):=zag ha hr (by rfl)
end
noncomputable def tPrs:List (V×V)->TA
 |[]=>tNil
 | (a,b)::r=>tCons (tTup (tCons (tC a) (tCons (tC b) tNil))) (tPrs r)
theorem zau{i:Nat}{v:V}{σ:St}{H:Hp}{Q:St->Hp->Prop}:gName i v σ H Q=Q (σ.set i (some v)) H:=rfl
theorem zmy{i:Nat}{v:V}{u:TS}{D:Ends}{σ:St}{H:Hp}:tSeq (tAsg (tC v) (gName i)) u D σ H=u D (σ.set i (some v)) H:=rfl
section
variable {X:Cx}{tg:Expr}
end
inductive IsC:Expr->V->Prop where
 |int {n:Int} {k:Nat} {p:Pos}:IsC (.Constant (.int n) k p) (.int n)
 |bl {b:Bool} {k:Nat} {p:Pos}:IsC (.Constant (.bool b) k p) (.bl b)
 |neg {n:Int} {k:Nat} {p q:Pos}:IsC (.UnaryOp .USub (.Constant (.int n) k p) q) (.int (-n))
inductive IsPs:List Expr->List (V×V)->Prop where
 |nil:IsPs [] []
 |cons {a b:Expr} {x y:V} {k:Nat} {p:Pos} {es:List Expr} {l:List (V×V)}:IsC a x->IsC b y->IsPs es l->IsPs (.Tuple [a,b] k p::es) ((x,y)::l)
inductive RetPs:List Stmt->List (V×V)->Prop where
 |mk {es:List Expr} {l:List (V×V)} {p q:Pos}:IsPs es l->RetPs [.Return (some (.List es p)) q] l
section
variable {X:Cx}
theorem zhE{e:Expr}{v:V}(h:IsC e v):PE X e (tC v):=by
 cases h with
 |int=>exact zab
 |bl=>exact pe_bl
 |neg=>exact λpins s σ H Q I q=>(pe_un zeK zab) pins s σ H Q I ⟨_,rfl,q⟩
theorem zeM{e:Expr}{v:V}(h:IsC e v)(es:List Expr)(env:Env):Bl (e::es) env=(false,eval e env)::Bl es env:=by cases h <;> rfl
theorem zkb{es:List Expr}{l:List (V×V)}(h:IsPs es l):PA X es (tPrs l):=by
 induction h with
 |nil=>exact zad
 |cons h1 h2 _ ih=>exact pa_T (zav (zag (zhE h1) (zag (zhE h2) zad (zeM h2 _ _)) (zeM h1 _ _))) ih
theorem zga{b:List Stmt}{l:List (V×V)}(h:RetPs b l):PSs X b (tRet (tLst (tPrs l))):=by
 cases h with
 |mk h=>exact zaf (zaj (zaX (zkb h)))
end
section
variable {X:Cx}
end
section
variable {prog:AF}{w:A4}{A:AQ}{E:Value->Ab->Prop}{s:Ab}{T:String}{r d:Addr}{n:Nat}{P:Nat->Value->Prop}{OK:Heap->Prop}
end
section
variable {X:Cx}
end
section
variable {X:Cx}{o e f:Expr}{apos cpos:Pos}{td ty tx:TE}
end
section
variable {X:Cx}{tg:Expr}
end
section
variable {prog:AF}{w:A4}{A:AQ}{E:Value->Ab->Prop}{s:Ab}{d it v:Addr}{i ep:Nat}{es:Array DictEntry}{od:Obj}{ok ov:Value}
end
section
variable {X:Cx}
end
end L2
namespace RP
noncomputable def bv(w:Nat):Int:=if w=1∨w=2 then 1 else 0
noncomputable def tt(C:Cell->Bool)(e:Edge):Int:=match stepB C e with
 |none=>1
 |some s=>if s % 2=1 then -1 else 0
noncomputable def cr(x1 y1 x2 y2:Int):Int:=if y1=-1/\y2=0/\0<x2 then 1 else if y1=0/\y2=-1/\0<x1 then -1 else 0
section
variable (U V:Nat->Int)
noncomputable def hH(i j:Nat):Int:=cr (U j-U i) (V j-V i) (U (j+1)-U i) (V (j+1)-V i)
noncomputable def gG(i j:Nat):Int:=cr (U j-U i) (V j-V i) (U j-U (i+1)) (V j-V (i+1))
noncomputable def sE:Nat->Int
 | 0=>0
 |i+1=>sE i+hH U V i (i+1)+gG U V i (i+2)
variable {U V}
variable {n:Nat}
end
noncomputable def it(C:Cell->Bool)(b:Edge):Nat->Edge
 | 0=>b
 |k+1=>nxt C (it C b k)
theorem Chain.get{C:Cell->Bool}{b:Edge}{es:List Edge}(h:Chain C b es):∀i,i<es.length->es[i]?=some (it C b i)
 | 0,_=>h.1
 |i+1,hi=>by
  have h1:=Chain.get h i (by lia);have:=h.2.1 i _ _ h1 (Aa hi);rw[Aa hi,this];rfl
theorem Closed.pos{C:Cell->Bool}{b:Edge}{es:List Edge}(h:Closed C b es):0<es.length:=(Ac.mp h.1.1).1
theorem Closed.it_len{C:Cell->Bool}{b:Edge}{es:List Edge}(h:Closed C b es):it C b es.length=b:=by
 obtain⟨hc,l,hl,hb⟩:=id h;have hp:=h.pos;have:=hc.get (es.length-1) (by lia);rw[hl]at this
 cases this
 have e:it C b (es.length-1+1)=nxt C (it C b (es.length-1)):=rfl;rw[show es.length-1+1=es.length by lia]at e;rw[e,hb]
noncomputable def wW(C:Cell->Bool)(b:Edge):Nat->Int
 | 0=>b.w
 |k+1=>wW C b k+tt C (it C b k)
noncomputable def th(C:Cell->Bool)(b:Edge)(k:Nat):Int:=2*wW C b k-1+tt C (it C b k)
theorem Closed.head{C:Cell->Bool}{b a:Edge}{r:List Edge}(h:Closed C b (a::r)):a=b:=by have:=h.1.1;simpa using this
theorem Closed.rot1{C:Cell->Bool}{b c:Edge}{r:List Edge}(h:Closed C b (b::r))(hc:(r++[b])[0]?=some c):Closed C c (r++[b]):=by
 obtain⟨⟨h0,hs,hE,hn⟩,l,hl,hb⟩:=id h;refine⟨⟨hc,λi e f h1 h2=>?_,λe he=>hE e (by rcases Aj.mp he with m |m;exact Az _ m;rw[Ah.mp m];exact AE),?_⟩,?_⟩
 .have hi:=(Ac.mp h2).1;simp only[Af,AS,B6]at hi;rw[Ar (by lia)]at h1;rcases A8 (i+1) r.length with q |q
  .rw[Ar q]at h2;exact hs (i+1) e f (by simpa using h1) (by simpa using h2)
  .have e1:i+1=r.length:=by lia
   rw[AJ (by lia),e1]at h2;simp at h2;have e2:(b::r).length-1=i+1:=by simp;lia
   rw[e2]at hl;simp only[CQ]at hl;rw[hl]at h1
   cases h1
   rw[hb,h2]
 .rw[Dc];have:=B4.mp hn;exact⟨this.2,by simp,λx hx y hy e=>by rw[Ah.mp hy]at e;rw[e]at hx;exact this.1 hx⟩
 .refine⟨b,by simp,?_⟩
  cases r with
  |nil =>
   simp at hl hc;subst hc;subst hl;exact hb
  |cons a r =>
   simp at hc;have:=hs 0 b a rfl rfl;rw[<- this,hc]
theorem Closed.rot{C:Cell->Bool}:∀(j:Nat){b e:Edge}{es:List Edge},Closed C b es->es[j]?=some e->Closed C e (es.drop j++es.take j)
 | 0,b,e,es,h,he=>by
  have:=h.1.1;rw[he]at this
  cases this
  simpa using h
 |j+1,b,e,[],h,he=>by simp at he
 |j+1,b,e,a::r,h,he=>by
  have:=h.head;subst this;simp only[CQ]at he;have hj:=(Ac.mp he).1;obtain⟨c,hc⟩:∃c,(r++[a])[0]?=some c:=⟨_,Aa (by simp)⟩;have h1:=h.rot1 hc;have h2:=Closed.rot j h1 (by rw[Ar hj];exact he);rw[List.drop_append_of_le_length (by lia),BC (by lia)]at h2;simpa using h2
noncomputable def wc(c:Cell)(e:Edge):Int:=if e.c.2=c.2/\c.1<px e then dy e.w else 0
noncomputable def wd(es:List Edge)(c:Cell):Int:=(es.map (wc c)).sum
inductive Rch (D:Cell->Bool) (S:List Nat) (a:Cell):Cell->Prop where
 |refl:Rch D S a a
 |step {c:Cell} {s:Nat}:Rch D S a c->s∈S->D (go c s)=true->Rch D S a (go c s)
noncomputable abbrev no(C:Cell->Bool):Cell->Bool:=λc=>!C c
structure BoxOf (P:List Cell) (l lo r hi:Int):Prop where
 all:∀c∈P,l<c.1/\c.1<r/\lo<c.2/\c.2<hi
 bot:∃c∈P,c.2=lo+1
noncomputable def inBox(l lo r hi:Int)(c:Cell):Prop:=l<=c.1/\c.1<=r/\lo<=c.2/\c.2<=hi
structure FreeOf (D:Cell->Bool) (P:List Cell) (l lo r hi:Int):Prop where
 iff:∀c,D c=true ↔ (inBox l lo r hi c/\c ∉ P)
section
variable {C D:Cell->Bool}{b:Edge}{es:List Edge}{P:List Cell}{l lo r hi:Int}
end
noncomputable def zak(s:Nat):Nat:=(s+1) / 2 % 4
noncomputable def wayB(s:Nat):Nat:=(zak s+4-s % 2) % 4
noncomputable def dgo:Nat->List Nat->List (Option Nat)×Nat
 |w,[]=>([],w)
 |w,s::r=>(Ae ((zak s+4-w) % 4) none++some s::(dgo (wayB s) r).1,(dgo (wayB s) r).2)
noncomputable def zaQ(w:Nat)(row:List Nat):Nat:=if row.isEmpty then 4 else (w+4-(dgo w row).2) % 4
noncomputable def deeds(w:Nat)(row:List Nat):List (Option Nat):=(dgo w row).1++Ae (zaQ w row) none
end RP
namespace L2
open PySem PySem.Spec PyProof.Rows
section
variable {prog:AF}{w:A4}{K:Type} [DecidableEq K]
end
section
variable {X:Cx}{o i:Expr}{pos pos':Pos}{td ty:TE}
end
section
variable {X:Cx}{osc:Scope}{N:List Str}{sc:Scope}{N':List Str}{sel:List (Option Nat)}{pos:Pos}{kx vx tg iter:Expr}{ifs:List Expr}{wi:TI}{g:TG}{tt:TT}{tk tv:TE}
end
end L2
namespace HT
open PySem PyProof.Rows PySem.Spec
end HT
namespace L2
open PySem PySem.Spec PyProof.Rows
section
variable {X:Cx}{K:W.Frag}
theorem samU{H:Hp}{p:Addr}{o:HO}(h:H p=none):Same H (upd H p o):=λb u e=>by rw[zam (λz=>by rw[z,h]at e;cases e)];exact e
noncomputable def rCatS(K:W.Frag):R2:=λx y H Q=>∃a b xs ys,x=.ref a/\y=.ref b/\H a=some (.tup xs)/\H b=some (.tup ys)/\xs.length+ys.length<=sizeLine /\
 ∀p H',Same H H'->H' p=some (.tup (xs++ys))->Q (.ref p) H'
theorem zlt:OpR X (CD .Add) (rCatS X.K):=by
 intro pins s σ H x y v u Q I rx ry h;obtain⟨a,b,xs,ys,rfl,rfl,ha,hb,hz,q⟩:=h;refine zlu pins s σ H _ _ v u Q I rx ry ⟨a,b,xs,ys,rfl,rfl,SqT.of ha,SqT.of hb,hz,λz=>?_,λ_ z=>?_,λ_ _ p hp=>q p _ (samU hp) zaa⟩
 .subst z;exact q b H (Same.refl _) hb
 .subst z;exact q a H (Same.refl _) (by rw[AH];exact ha)
noncomputable def rSlS(K:W.Frag):V->Option Int->Option Int->Hp->VK->Prop:=λx lo hi H Q=>∃a xs,x=.ref a/\H a=some (.tup xs)/\∀p H',Same H H'->H' p=some (.tup (cutV xs lo hi))->Q (.ref p) H'
theorem zkv{xs:List V}{lo hi:Option Int}(h:HT.sIx xs.length 0 lo=0/\HT.sIx xs.length xs.length hi=xs.length):cutV xs lo hi=xs:=by unfold cutV;rw[h.1,h.2,List.drop_zero,Nat.sub_zero,AL]
theorem ziO:SlR X (rSlS X.K):=by intro pins s σ H x v vl vu lo hi sl Q I rx hs pl pu h;obtain⟨a,xs,rfl,ha,q⟩:=h;exact zgU pins s σ H _ v vl vu lo hi sl Q I rx hs pl pu ⟨a,xs,rfl,SqT.of ha,λz=>q a H (Same.refl _) (by rw[zkv z];exact ha),λ_ p hp=>q p _ (samU hp) zaa⟩
end
open PySem
theorem sC{N P:List Str}{sc:Scope}(a:sc.kind = .function := by rfl)(b:sc.isCoroutine=false := by rfl)(c:sc.isGenerator=false := by rfl)(d:N.Nodup := by decide +kernel)(e:N.take P.length=P := by rfl)
  (f:∀x∈P,sc.names.lookup x=some .local∨sc.names.lookup x=some .cell:=by decide +kernel) (g:∀y∈sc.names,y.2≠.free:=by decide +kernel):FnScope N P sc:=⟨a,b,c,d,e,f,g⟩
section
variable {X:Cx}{k j:Nat}{x:Str}{ps:List Str}{sp:Sp}{e:Expr}{es:List Expr}{t:TA}{te:TE}{p pos pos':Pos}
theorem pC (g:Fn X.prog X.w X.K X.mg X.base k x ps sp) (hr:Room j X.A) (ha:PA X (e :: es) t) (hj:k <= j := by decide) (hg:Gl X x := by rfl) (hdb:(x == ("__debug__" : Str))=false := by decide)
  (he:Bl (e::es) X.env=(false,eval e X.env)::Bl es X.env:=by rfl) (hpl:(backTo pos (Bl es X.env)).any (·.1)=false:=by rfl):PE X (.Call (.Name x p) (e::es) [] pos) (tCall sp [] E0 t) :=
 zlp g.ok (hr.mono hj) hg g.m g.kp g.b .nil pass0 ha hdb he hpl
theorem nG(i:Nat)(hN:X.N.Nodup)(hi:X.N[i]?=some x:=by rfl)(hx:Loc X.env.scope x:=by exact Or.inl rfl)(hf:X.fn x=true∨X.env.scope.names.lookup x=some .local:=by first |exact .inl rfl |exact .inr rfl |assumption):PG X (.Name x pos) (gName i) :=
 zlm hN hi hx hf
theorem sE(i:Nat)(hN:X.N.Nodup)(he:PE X e te)(hi:X.N[i]? = some x := by rfl)(hx:Loc X.env.scope x := by exact Or.inl rfl)(hs:swapsWith e (some (.Name x pos')) pos.line X.env=pure false := by rfl)
  (hf:X.fn x=true∨X.env.scope.names.lookup x=some .local:=by first |exact .inl rfl |exact .inr rfl |assumption):PS X (.Assign [.Name x pos'] e pos) (tAsg te (gName i)) :=
 zi4 hN hi hx he hs hf
end
theorem bO{osc:Scope}{N:List Str}{sc:Scope}{N':List Str}{sel:List (Option Nat)}(a:sc.kind = .function := by rfl)(b:∀y ∈ sc.names, y.2 ≠ .cell := by decide +kernel)(c:∀y ∈ sc.names, y.2 = .local -> sc.names.lookup y.1=some .local := by decide +kernel)
  (d:∀y∈sc.names,y.2=.free->osc.names.lookup y.1=some .cell∨osc.names.lookup y.1=some .free:=by decide +kernel) (e:sel.length=N'.length:=by rfl) (f:∀p∈sel.zip N',∀i∈p.1,N[i]?=some p.2/\sc.names.lookup p.2=some .free:=by decide +kernel):BlkOk osc N sc N' sel:=⟨a,b,c,d,e,f⟩
section
variable {K:W.Frag}{x qual:Str}{st:Stmt}{f:Addr}{fd:Bv}
theorem Fun.b0(F:Fun K x qual st f fd)(h:∀(kV doc pm:Value) (an:Option Addr) (cdv ct:Value),De (CV x qual (za2 st) (zaA st) (zae st) .none kV doc pm an cdv ct) ⟨[],[]⟩=pure []:=by intros;rfl):Binds K fd [] [] :=
 F.binds λkV doc pm an cdv ct us hl=>match us,hl with |[],_=>h kV doc pm an cdv ct
theorem Fun.b1{p0:Str}(F:Fun K x qual st f fd)(h:∀(kV doc pm:Value) (an:Option Addr) (cdv ct a0:Value),De (CV x qual (za2 st) (zaA st) (zae st) .none kV doc pm an cdv ct) ⟨[a0],[]⟩=pure [(p0,a0)]:=by intros;rfl):Binds K fd [p0] [] :=
 F.binds λkV doc pm an cdv ct us hl=>match us,hl with |[a0],_=>h kV doc pm an cdv ct a0
theorem Fun.b2{p0 p1:Str}(F:Fun K x qual st f fd)(h:∀(kV doc pm:Value) (an:Option Addr) (cdv ct a0 a1:Value),De (CV x qual (za2 st) (zaA st) (zae st) .none kV doc pm an cdv ct) ⟨[a0,a1],[]⟩=pure [(p0,a0),(p1,a1)]:=by intros;rfl):Binds K fd [p0,p1] [] :=
 F.binds λkV doc pm an cdv ct us hl=>match us,hl with |[a0,a1],_=>h kV doc pm an cdv ct a0 a1
theorem Fun.b3{p0 p1 p2:Str}(F:Fun K x qual st f fd)(h:∀(kV doc pm:Value) (an:Option Addr) (cdv ct a0 a1 a2:Value),De (CV x qual (za2 st) (zaA st) (zae st) .none kV doc pm an cdv ct) ⟨[a0,a1,a2],[]⟩=pure [(p0,a0),(p1,a1),(p2,a2)]:=by intros;rfl):Binds K fd [p0,p1,p2] [] :=
 F.binds λkV doc pm an cdv ct us hl=>match us,hl with |[a0,a1,a2],_=>h kV doc pm an cdv ct a0 a1 a2
theorem Fun.b6{p0 p1 p2 p3 p4 p5:Str}(F:Fun K x qual st f fd)(h:∀(kV doc pm:Value) (an:Option Addr) (cdv ct a0 a1 a2 a3 a4 a5:Value),De (CV x qual (za2 st) (zaA st) (zae st) .none kV doc pm an cdv ct) ⟨[a0,a1,a2,a3,a4,a5],[]⟩=pure [(p0,a0),(p1,a1),(p2,a2),(p3,a3),(p4,a4),(p5,a5)]:=by intros;rfl):Binds K fd [p0,p1,p2,p3,p4,p5] [] :=
 F.binds λkV doc pm an cdv ct us hl=>match us,hl with |[a0,a1,a2,a3,a4,a5],_=>h kV doc pm an cdv ct a0 a1 a2 a3 a4 a5
end
noncomputable def DA(K:W.Frag)(x:Str)(st:Stmt):Prop:=∃(f:Addr) (od an:Option Addr) (sl:Array (Option Value)) (oc kV dc pm cd ct:Value),Cw K AN x=some (some (.ref f)) /\
 K.lookup f=some ⟨oc,od,.func (CV x x (za2 st) (zaA st) (zae st) .none kV dc pm an cd ct),sl⟩/\W.codeIn K cd x=true/\Dd K (.ref f)=true
section
variable {K:W.Frag}{mg:Str->Option Value}{h:Heap}{x:Str}{st:Stmt}
theorem DA.mk{f:Addr}{od an:Option Addr}{sl:Array (Option Value)}{oc kV dc pm cd ct:Value}(a:Cw K AN x=some (some (.ref f)))
  (l:K.lookup f=some ⟨oc,od,.func (CV x x (za2 st) (zaA st) (zae st) .none kV dc pm an cd ct),sl⟩) (c:W.codeIn K cd x=true) (k:Dd K (.ref f)=true):DA K x st :=
 ⟨f,od,an,sl,oc,kV,dc,pm,cd,ct,a,l,c,k⟩
theorem DA.d0(D:DA K x st)(X:K.In h)(G:h.Ns AN mg)(hb:∀(kV doc pm:Value) (an:Option Addr) (cdv ct:Value),De (CV x x (za2 st) (zaA st) (zae st) .none kV doc pm an cdv ct) ⟨[],[]⟩=pure []:=by intros;rfl):Nonempty (Df K mg x st []):=by obtain⟨f,od,an,sl,oc,kV,dc,pm,cd,ct,a,l,c,k⟩:=D;exact⟨⟨f,_,zcq l c k,W.mg_of X G a,(zcq l c k).b0 hb⟩⟩
theorem DA.d1{p0:Str}(D:DA K x st)(X:K.In h)(G:h.Ns AN mg)(hb:∀(kV doc pm:Value) (an:Option Addr) (cdv ct a0:Value),De (CV x x (za2 st) (zaA st) (zae st) .none kV doc pm an cdv ct) ⟨[a0],[]⟩=pure [(p0,a0)]:=by intros;rfl):Nonempty (Df K mg x st [p0]):=by obtain⟨f,od,an,sl,oc,kV,dc,pm,cd,ct,a,l,c,k⟩:=D;exact⟨⟨f,_,zcq l c k,W.mg_of X G a,(zcq l c k).b1 hb⟩⟩
theorem DA.d2{p0 p1:Str}(D:DA K x st)(X:K.In h)(G:h.Ns AN mg)(hb:∀(kV doc pm:Value) (an:Option Addr) (cdv ct a0 a1:Value),De (CV x x (za2 st) (zaA st) (zae st) .none kV doc pm an cdv ct) ⟨[a0,a1],[]⟩=pure [(p0,a0),(p1,a1)]:=by intros;rfl):Nonempty (Df K mg x st [p0,p1]):=by obtain⟨f,od,an,sl,oc,kV,dc,pm,cd,ct,a,l,c,k⟩:=D;exact⟨⟨f,_,zcq l c k,W.mg_of X G a,(zcq l c k).b2 hb⟩⟩
theorem DA.d3{p0 p1 p2:Str}(D:DA K x st)(X:K.In h)(G:h.Ns AN mg)(hb:∀(kV doc pm:Value) (an:Option Addr) (cdv ct a0 a1 a2:Value),De (CV x x (za2 st) (zaA st) (zae st) .none kV doc pm an cdv ct) ⟨[a0,a1,a2],[]⟩=pure [(p0,a0),(p1,a1),(p2,a2)]:=by intros;rfl):Nonempty (Df K mg x st [p0,p1,p2]):=by obtain⟨f,od,an,sl,oc,kV,dc,pm,cd,ct,a,l,c,k⟩:=D;exact⟨⟨f,_,zcq l c k,W.mg_of X G a,(zcq l c k).b3 hb⟩⟩
theorem DA.d6{p0 p1 p2 p3 p4 p5:Str}(D:DA K x st)(X:K.In h)(G:h.Ns AN mg)(hb:∀(kV doc pm:Value) (an:Option Addr) (cdv ct a0 a1 a2 a3 a4 a5:Value),De (CV x x (za2 st) (zaA st) (zae st) .none kV doc pm an cdv ct) ⟨[a0,a1,a2,a3,a4,a5],[]⟩=pure [(p0,a0),(p1,a1),(p2,a2),(p3,a3),(p4,a4),(p5,a5)]:=by intros;rfl):Nonempty (Df K mg x st [p0,p1,p2,p3,p4,p5]):=by obtain⟨f,od,an,sl,oc,kV,dc,pm,cd,ct,a,l,c,k⟩:=D;exact⟨⟨f,_,zcq l c k,W.mg_of X G a,(zcq l c k).b6 hb⟩⟩
end
open PySem PyProof.Rows
section
variable {X:Cx}{pos:Pos}
end
structure Fly (B:Heap) (l:List Env) (e:Addr) (o:Obj) (vs:Array Value) (fl:Value) (h:Heap):Prop where
 stay:B.StaysIn h
 new:B.get? e=none
 fr:h.FunFrames B l
 tb:∃T oT ts,h.get? e=some { o with data:=.fields (vs.setIfInBounds 1 (.ref T)) }/\1<vs.size/\B.get? T=none/\T≠e/\h.get? T=some oT/\oT.data=.fields ts/\ts[3]?=some fl
section
variable {M:Model}{A:AQ}{E:Value->Ab->Prop}{s:Ab}{B:Heap}{env:Env}{outer l:List Env}{L e:Addr}{o:Obj}{vs us:Array Value}{fl:Value}{Q:Unit->Ab->Prop}
end
noncomputable def CX1(P:AF)(w:A4):CXT:=λouter H s E e s'=>∃(a:Addr) (H':Hp) (B:Heap) (o:Obj) (vs:Array Value),e=.ref a/\s'.os=s.os/\AllBare s'.gens/\Fly B outer a o vs .none s'.heap/\s.heap.get? a=none/\H' a=none /\
 (∀h2,B.StaysIn h2->s'.heap.UpToSlots h2->Un (frs outer) [] H H' s.heap h2/\HOk P w H' h2)/\E o.cls o.dict H'
section
variable {P:AF}{w:A4}{K:W.Frag}{mg:Str->Option Value}{base:Heap}{N:List Str}{qual:Str}{scope:Scope}{f:Addr}{cd:Value}{A:AQ}{outer:List Env}{s0:Ab}{H0:Hp}{E:XK}
 {pins:List (Addr×Obj)} {σ:St} {H:Hp} {s:Ab} {e:Addr} {o:Obj} {vs:Array Value}
end
section
variable {P:AF}{w:A4}{K:W.Frag}{mg:Str->Option Value}{base:Heap}{N:List Str}{qual:Str}{scope:Scope}{f:Addr}{cd:Value}{A:AQ}{outer:List Env}{s0:Ab}{H0:Hp}{E:XK}
end
noncomputable abbrev Cx.pinned(X:Cx)(pins:List (Addr×Obj)):Cx:={ X with pn:=X.pn++pins }
noncomputable abbrev Cx.held(X:Cx)(a:Addr):Cx:={ X with A:=X.A.mark (some (.ref a)),calm:=false,xe:=λ_ _=>False }
noncomputable def Ends.drop(D:Ends)(i:Nat):Ends:={ nx:=λσ H=>D.nx (σ.set i none) H,rt:=D.rt,bk:=λσ H=>D.bk (σ.set i none) H,ct:=λσ H=>D.ct (σ.set i none) H }
section
variable {X:Cx}{pins:List (Addr×Obj)}{σ:St}{H:Hp}{s:Ab}{E:XK}
end
section
variable {X:Cx}
end
section
variable {prog:AF}{w:A4}{A:AQ}{E:Value->Ab->Prop}{s:Ab}{K:W.Frag}{a D:Addr}{u:Obj}{od:Option Obj}
end
structure ExcC (K:W.Frag) (D:Addr):Prop where
 hga:W.findIn K (.ref D) "__getattribute__" = some (some (.builtin "BaseException.__getattribute__"))
 hgb:W.findIn K (.ref D) "__getattr__" = some none
 hb:W.subIn K (.ref D) (.type "BaseException")=some true
 hd:W.hasDictIn K D=true
 ha:W.findIn K (.ref D) "__class__" = some (some (.builtin "object.__class__"))
 hn:W.specialIn K (.builtin "object.__class__") "__get__" = some (some (.builtin "getset_descriptor.__get__"))
 ht:W.takesIn K (.builtin "object.__class__")=some true
 hm:W.mroIn K D (.type "object")=some true
section
variable {P:AF}{w:A4}{K:W.Frag}{mg:Str->Option Value}{base:Heap}
structure FnX (P:AF) (w:A4) (K:W.Frag) (mg:Str->Option Value) (base:Heap) (k:Nat) (x:Str) (ps:List Str) (sp:Sp) where
 f:Addr
 fd:Bv
 ok:FnOk P w K mg base (CX1 P w) k f fd ps sp
 m:mg x=some (.ref f)
 kp:Dd K (.ref f)=true
 b:Binds K fd ps []
end
section
variable {X:Cx}{k j:Nat}{x:Str}{ps:List Str}{sp:Sp}{E:XK}{p pos:Pos}{e:Expr}{es:List Expr}{t:TA}
end
section
variable {prog:AF}{w:A4}{A:AQ}{E:Value->Ab->Prop}{h:Heap}{g:Array GenState}{d:Drawn}{t:Nat}{os:OsState}
variable {nm q:Str}{C N f:Addr}{bs bm bmB:List Value}{hdct:Bool}{sn:List Str}{sub:List Value}{ab:Bool}{col:Option Bool}{dd:Option Addr}{k0 k1 k2 k3 k5:Option Value}{B newId initId:String}
end
noncomputable def overX(bm:List Value):List Value->Bool
 |.ref _::r=>overX bm r
 |l=>l == bm
noncomputable abbrev bmV:List Value:=[.type "ValueError",.type "Exception",.type "BaseException",.type "object"]
section
variable {prog:AF}{w:A4}{A:AQ}{R:Result->Ab->Prop}{E:Value->Ab->Prop}{s:Ab}{K:W.Frag}{x C:Addr}{ox:Obj}{od:Option Obj}
end
section
variable {prog:AF}{w:A4}{A:AQ}{E:Value->Ab->Prop}{s:Ab}{K:W.Frag}{x C dx:Addr}
end
noncomputable def xdO(d:Addr)(fs:List (Str×V)):HO:=.ext λh=>∃mA,h.Ns1 d mA/\(∀f,RelO (fs.lookup f) (mA f))/\PySem.Within mA (fs.map (·.1))
noncomputable def exN(e C t:Addr)(d:Option Addr):HO:=.ext λh=>h.get? e=some { cls:=.ref C,dict:=d,data:=.fields #[.ref t,.none,.none,.none,.bool false,.none] }
structure ExS (K:W.Frag) (C:Addr):Prop where
 cl:(W.clsIn K C).any (λcd=>cd.hasDict && overX bmV cd.mro)=true
 m:W.mroIn K C (.type "object")=some true
 s:W.findIn K (.ref C) "__setattr__" = some (some (.builtin "object.__setattr__"))
section
variable {X:Cx}{pins:List (Addr×Obj)}{σ:St}{H:Hp}{s:Ab}{a C t:Addr}{f:Str}{A:AQ}{E:Value->Ab->Prop}
end
section
variable {X:Cx}{o value:Expr}{f:Str}{pos pos':Pos}{ta tv:TE}
end
noncomputable def zmo(K:W.Frag)(C:Addr)(bB:List Value)(nw:String)(f:Addr):Bool:=match K.lookup C with
 |some ⟨.type "type",_,.cls c,⟨[_,_,_,_,k4,_]⟩⟩=>k4 == some (.builtin nw) && !c.hasDel && c.mro.head? == some (.ref C) && W.tailIn K bB c.mro.tail && W.nsOkIn K c.ns && Cw K c.ns "__init__" == some (some (.ref f))
 |_=>false
structure MkX (K:W.Frag) (C f:Addr) (bB:List Value) (nw:String):Prop where
 ex:zmo K C bB nw f=true
 fn:W.isFn K (.ref f)=true
 kp:Dd K (.ref C)=true
section
variable {X:Cx}{C f:Addr}{k:Nat}{fd:Bv}{ps:List Str}{sp:Sp}{E:XK}{Bn nw it:String}{bB:List Value}{CX:CXT}{x:Str}{p pos:Pos}{e:Expr}{es:List Expr}{t:TA}
end
noncomputable def drop(H:Hp)(a:Addr):Hp:=λb=>if b=a then none else H b
section
variable {M:Model}{A:AQ}{E:Value->Ab->Prop}{s:Ab}{env:Env}
variable {nm q:Str}{C N:Addr}{bs bm:List Value}{hdct:Bool}{sn:List Str}{sub:List Value}{ab:Bool}{col:Option Bool}{dd:Option Addr}{k0 k1 k2 k3 k5:Option Value}{newId:String}
end
section
variable {X:Cx}{pins:List (Addr×Obj)}{σ:St}{H:Hp}{s:Ab}
end
section
variable {P:AF}{w:A4}{K:W.Frag}{mg:Str->Option Value}{base:Heap}{N:List Str}{qual:Str}{scope:Scope}{f:Addr}{cd:Value}{A:AQ}{outer:List Env}{s0:Ab}{H0:Hp}{E:XK}
end
noncomputable def spI(C:Addr)(fs:List Str):Sp:=λvs H Q _=>∃x t ws,vs=.ref x::ws/\ws.length=fs.length/\H x=some (exN x C t none)/\∀d,H d=none->d≠x->Q .non (upd (upd H x (exN x C t (some d))) d (xdO d (fs.zip ws)))
structure ExA (P:AF) (w:A4) (K:W.Frag) (mg:Str->Option Value) (base:Heap) (x:Str) (C:Addr) (fs:List Str) where
 f:Addr
 fd:Bv
 ps:List Str
 B:String
 nw:String
 it:String
 bB:List Value
 FB:ExcBaseFacts B nw it bB
 M:MkX K C f bB nw
 ok:FnOk P w K mg base (CX1 P w) 1 f fd ps (spI C fs)
 b:Binds K fd ps []
 m:mg x=some (.ref C)
 z:fs.length<=1000
section
variable {P:AF}{w:A4}{K:W.Frag}{mg:Str->Option Value}{base:Heap}{N:List Str}{qual:Str}{scope:Scope}{f:Addr}{cd:Value}{A:AQ}{outer:List Env}{s0:Ab}{H0:Hp}{E:XK}
end
section
variable {prog:AF}{w:A4}{A:AQ}{E:Value->Ab->Prop}{s:Ab}{K:W.Frag}{a D d:Addr}{u:Obj}{od:Option Obj}
end
section
variable {X:Cx}{pins:List (Addr×Obj)}{σ:St}{H:Hp}{s:Ab}{a D d:Addr}{fs:List (Str×V)}
end
section
variable {X:Cx}{pins:List (Addr×Obj)}{B:Heap}{a:Addr}{o:Obj}{vs:Array Value}{s5 s2:Ab}{σ' σ2:St}{H' H2:Hp}{body suite:List Stmt}{b0:Stmt}{n tn:Str}{i:Nat}{T:Addr}{E:XK}{tb ts:TS}{np hpos pos:Pos}{D:Ends}{rest:List ExceptHandler}{b:Bool}
end
section
variable {X:Cx}{body suite suite2:List Stmt}{b0 b1:Stmt}{n tn tn2:Str}{i:Nat}{T T2:Addr}{E:XK}{tb ts t2:TS}{np np2 hpos hpos2 pos:Pos}
end
end L2
namespace RR
open PySem L2
noncomputable def top(i:Nat):Stmt:=PySem.Challenge.pw_rimsteps_k51_by_an_eighth.main.body.getD i (.Pass ⟨0,0,0,0⟩)
noncomputable abbrev zcn:Stmt:=top 5
noncomputable abbrev zgO:List Str:=["cell"]
theorem zfc:FnScope zgO ["cell"] (zae zcn):=sC
noncomputable abbrev zb8:Stmt:=top 6
noncomputable abbrev zfU:List Str:=["picture","at"]
theorem zcA:FnScope zfU ["picture"] (zae zb8):=sC
noncomputable abbrev ziT:Stmt:=top 7
noncomputable abbrev zmw:List Str:=["x","y","step","right","up"]
theorem zgX:FnScope zmw ["x","y","step"] (zae ziT):=sC
noncomputable abbrev zbO:Stmt:=top 8
noncomputable abbrev zdp:List Str:=["picture"]
theorem zfb:FnScope zdp ["picture"] (zae zbO):=sC
noncomputable abbrev zcl:Stmt:=top 10
noncomputable abbrev zgM:List Str:=["edge","x","y","way"]
theorem zbx:FnScope zgM ["edge"] (zae zcl):=sC
noncomputable abbrev zbG:Stmt:=top 11
noncomputable abbrev zcR:List Str:=["picture","table","edges"]
theorem zci:FnScope zcR ["picture"] (zae zbG):=sC
noncomputable abbrev zbF:Stmt:=top 12
noncomputable abbrev zem:List Str:=["way"]
theorem zdr:FnScope zem ["way"] (zae zbF):=sC
noncomputable abbrev zck:Stmt:=top 13
noncomputable abbrev zgL:List Str:=["way"]
theorem zfa:FnScope zgL ["way"] (zae zck):=sC
noncomputable abbrev zb3:Stmt:=top 14
noncomputable abbrev zfP:List Str:=["table","edge","x","y","way","step"]
theorem zba:FnScope zfP ["table","edge"] (zae zb3):=sC
noncomputable abbrev zda:Stmt:=top 15
noncomputable abbrev zit:List Str:=["step"]
theorem zgW:FnScope zit ["step"] (zae zda):=sC
noncomputable abbrev zb6:Stmt:=top 16
noncomputable abbrev zfS:List Str:=["edge","step","x","y","way","new_x","new_y"]
theorem zaY:FnScope zfS ["edge","step"] (zae zb6):=sC
noncomputable abbrev zcF:Stmt:=top 19
noncomputable abbrev zhe:List Str:=["table","begin","step","walk","edge"]
theorem zbe:FnScope zhe ["table","begin"] (zae zcF):=sC
noncomputable abbrev zaO:Stmt:=top 20
noncomputable abbrev zbk:List Str:=["walk","lefts","slants"]
theorem zbc:FnScope zbk ["walk"] (zae zaO):=sC
noncomputable abbrev zbd:Stmt:=top 21
noncomputable abbrev zcQ:List Str:=["walk","lefts","slants"]
theorem za7:FnScope zcQ ["walk"] (zae zbd):=sC
noncomputable abbrev zdS:Stmt:=top 22
noncomputable abbrev zjX:List Str:=["walk"]
theorem zib:FnScope zjX ["walk"] (zae zdS):=sC
noncomputable abbrev zcu:Stmt:=top 23
noncomputable abbrev ze0:List Str:=["walk","sort"]
theorem zgY:FnScope ze0 ["walk","sort"] (zae zcu):=sC
noncomputable abbrev zbB:Stmt:=top 24
noncomputable abbrev zdl:List Str:=["walk","sort","begin","at","row"]
theorem zbD:FnScope zdl ["walk"] (zae zbB):=sC
noncomputable abbrev zb4:Stmt:=top 25
noncomputable abbrev zfQ:List Str:=["one","sort","x","y","row"]
theorem zbb:FnScope zfQ ["one"] (zae zb4):=sC
noncomputable abbrev zbR:Stmt:=top 26
noncomputable abbrev zeG:List Str:=["table","edges","walked","told","begin","walk","edge","step"]
theorem zaL:FnScope zeG ["table","edges"] (zae zbR):=sC
noncomputable abbrev zfe:Stmt:=top 27
noncomputable abbrev zkz:List Str:=["picture"]
theorem ziS:FnScope zkz ["picture"] (zae zfe):=sC
noncomputable abbrev zdQ:Stmt:=top 30
noncomputable abbrev zjV:List Str:=["step"]
theorem zia:FnScope zjV ["step"] (zae zdQ):=sC
noncomputable abbrev zb7:Stmt:=top 31
noncomputable abbrev zfT:List Str:=["begin_way","row","way","deeds","step","lefts"]
theorem zaZ:FnScope zfT ["begin_way","row"] (zae zb7):=sC
noncomputable abbrev zdR:Stmt:=top 32
noncomputable abbrev zjW:List Str:=["begin","deeds","walk","edge","deed"]
theorem zbZ:FnScope zjW ["begin","deeds"] (zae zdR):=sC
noncomputable abbrev zcj:Stmt:=top 33
noncomputable abbrev zgK:List Str:=["begin","row"]
theorem ze9:FnScope zgK ["begin","row"] (zae zcj):=sC
noncomputable abbrev zbQ:Stmt:=top 34
noncomputable abbrev zeF:List Str:=["edge","step","x","y","way","behind","seen"]
theorem zaR:FnScope zeF ["edge","step"] (zae zbQ):=sC
noncomputable abbrev zb5:Stmt:=top 35
noncomputable abbrev zfR:List Str:=["walk","known","steps_gone","edge","step","cell","inside"]
theorem zaI:FnScope zfR ["walk"] (zae zb5):=sC
noncomputable abbrev zcm:Stmt:=top 36
noncomputable abbrev zgN:List Str:=["walk","edge","step"]
theorem zb1:FnScope zgN ["walk"] (zae zcm):=sC
noncomputable abbrev zcG:Stmt:=top 37
noncomputable abbrev zhf:List Str:=["walk","sort"]
theorem zf7:FnScope zhf ["walk","sort"] (zae zcG):=sC
noncomputable abbrev zdC:Stmt:=top 39
noncomputable abbrev zh1:List Str:=["one","sort","x","y","row","further","walk"]
theorem zbE:FnScope zh1 ["one"] (zae zdC):=sC
noncomputable abbrev zbT:Stmt:=top 41
noncomputable abbrev zeI:List Str:=["_law_script","_law_k"]
theorem zdP:FnScope zeI ["_law_script","_law_k"] (zae zbT):=sC
noncomputable abbrev zcI:Stmt:=top 42
noncomputable abbrev zhg:List Str:=["_law_pen","_law_base","_law_rest","_law_number"]
theorem zbu:FnScope zhg ["_law_pen","_law_base"] (zae zcI):=sC
noncomputable abbrev zdb:Stmt:=top 43
noncomputable abbrev ziu:List Str:=["_law_pen","_law_way"]
theorem zdO:FnScope ziu ["_law_pen"] (zae zdb):=sC
noncomputable abbrev zbH:Stmt:=top 44
noncomputable abbrev zeo:List Str:=["_law_pen","_law_way","_law_x","_law_y","_law_wide","_law_high"]
theorem zds:FnScope zeo ["_law_pen","_law_way","_law_x","_law_y","_law_wide","_law_high"] (zae zbH):=sC
noncomputable abbrev zbS:Stmt:=top 45
noncomputable abbrev zeH:List Str:=["_law_pen","_law_most","_law_wide","_law_high","_law_way","_law_dx","_law_dy","_law_found","_law_y","_law_x"]
theorem zaz:FnScope zeH ["_law_pen","_law_most"] (zae zbS):=sC
noncomputable abbrev zbh:Stmt:=top 46
noncomputable abbrev zcr:List Str:=["_law_found"]
theorem zdt:FnScope zcr ["_law_found"] (zae zbh):=sC
noncomputable abbrev zbv:Stmt:=top 47
noncomputable abbrev zgP:List Str:=[]
theorem zfd:FnScope zgP [] (zae zbv):=sC
noncomputable abbrev zby:Stmt:=top 48
noncomputable abbrev zc8:List Str:=[]
theorem zeq:FnScope zc8 [] (zae zby):=sC
noncomputable abbrev zca:Stmt:=top 49
noncomputable abbrev zfW:List Str:=["_law_x","_law_y","_law_step"]
theorem zer:FnScope zfW ["_law_x","_law_y","_law_step"] (zae zca):=sC
noncomputable abbrev zcH:Stmt:=top 50
noncomputable abbrev zen:List Str:=["_law_x","_law_y","_law_row","_law_cells","_law_gaps","_law_left","_law_way","_law_step"]
theorem zaB:FnScope zen ["_law_x","_law_y","_law_row"] (zae zcH):=sC
noncomputable abbrev zbs:Stmt:=top 51
noncomputable abbrev zbX:List Str:=["_law_one","_law_row","_law_cells","_law_gaps","_law_left","_law_end","_law_there","_law_cell"]
theorem zaM:FnScope zbX ["_law_one","_law_row"] (zae zbs):=sC
noncomputable abbrev zbz:Stmt:=top 52
noncomputable abbrev zce:List Str:=["_law_one","_law_way","_law_begin","_law_x","_law_y","_law_places","_law_step","_law_leaving"]
theorem zap:FnScope zce ["_law_one"] (zae zbz):=sC
noncomputable abbrev zb9:Stmt:=top 53
noncomputable abbrev zfV:List Str:=["_law_one","_law_other","_law_row","_law_x","_law_y","_law_at"]
theorem za0:FnScope zfV ["_law_one","_law_other","_law_row"] (zae zb9):=sC
noncomputable abbrev zbP:Stmt:=top 54
noncomputable abbrev zdq:List Str:=["_law_one","_law_found","_law_row"]
theorem zb2:FnScope zdq ["_law_one"] (zae zbP):=sC
noncomputable abbrev s_law:Stmt:=top 55
noncomputable abbrev N_law:List Str:=["_law_script","_law_k","_law_picture_here","_law_ring","_law_blocks","_law_told"]
theorem zeQ:FnScope N_law ["_law_script"] (zae s_law):=sC
open PySem L2 RP
noncomputable def cellT(c:Cell):List V:=[.int c.1,.int c.2]
noncomputable def edgeT(e:Edge):List V:=[.int e.c.1,.int e.c.2,.int e.w]
noncomputable def sv:Option Nat->V
 |none=>.non
 |some s=>.int s
noncomputable def Tab(H:Hp)(t:Addr)(C:Cell->Bool):Prop:=∃kvs:List (List Key×V),H t=some (.dT kvs)/\∀c:Cell,(valV kvs [Dj c.1,Dj c.2]).isSome=C c
theorem Tab.same{H H':Hp}{t:Addr}{C:Cell->Bool}(h:Tab H t C)(s:Same H H'):Tab H' t C:=let ⟨kvs,e,q⟩:=h;⟨kvs,s _ _ e,q⟩
theorem Same.up{H:Hp}{p:Addr}{o:HO}(h:H p=none):Same H (upd H p o):=λb u e=>by rw[zam (zal e h)];exact e
structure Txt (P:AF) (w:A4) (K:W.Frag) (mg:Str->Option Value):Prop where
 moves:∃M,mg "MOVES" = some (.ref M)/\∀H,∃ms:List Addr,SqT K H M (ms.map V.ref)/\ms.length=8/\∀(i:Nat) a,ms[i]?=some a->SqT K H a [.int (mv i).1,.int (mv i).2]
 ways:Ways P w K mg
 more:Two P w K mg "MORE_LEFTS" 4 (-4)
 nabs:mg "abs" = none
 nmax:mg "max" = none
 nany:mg "any" = none
 nrange:mg "range" = none
 nlen:mg "len" = none
 nmin:mg "min" = none
 nsorted:mg "sorted" = none
 ntuple:mg "tuple" = none
 nint:mg "int" = none
 nbool:mg "bool" = none
 nstr:mg "str" = none
 nall:mg "all" = none
 nisinstance:mg "isinstance" = none
 nlist:mg "list" = none
 nsum:mg "sum" = none
 nenumerate:mg "enumerate" = none
 nzip:mg "zip" = none
theorem two:2<=sizeLine:=by decide
theorem three:3<=sizeLine:=by decide
section
variable {P:AF}{w:A4}{K:W.Frag}{mg:Str->Option Value}{base:Heap}
noncomputable def zgT(K:W.Frag):Sp:=λvs H Q _=>∃(a:Addr) (x y:Int) (r:List V),vs=[.ref a]/\SqT K H a (.int x::.int y::r)/\∀(p:Addr) (H':Hp),H p=none->Same H H'->H' p=some (.tup [.int y,.int x])->Q (.ref p) H'
theorem zfu (d:Df K mg "cell_order" zcn ["cell"]):FnOk P w K mg base CX0 1 d.f d.fd ["cell"] (zgT K):=by
 refine d.F.ok zfc (λvs H Q E h=>?_) (λcdv A outer s H vs Q E hr h=>?_)
 .obtain⟨a,x,y,r,rfl,_⟩:=h;rfl
 .obtain⟨a,x,y,r,rfl,hq,k⟩:=h;refine⟨_,(zaf (zaj (zav (zag (pe_ix zat (pv 0) zab (λ_ _=>rfl)) (zag (pe_ix zat (pv 0) zab (λ_ _=>rfl)) zad))))),?_⟩;refine⟨_,rfl,a,_,_,_,rfl,rfl,hq,zai (j:=1) rfl,_,rfl,a,_,_,_,rfl,rfl,hq,zai (j:=0) rfl,two,λp hp=>?_⟩;exact k p _ hp (Same.up hp) zaa
noncomputable def zf5:Sp:=λvs H Q _=>∃(c:Cell) (i:Nat),vs=[.int c.1,.int c.2,.int i]/\i<8/\∀(p:Addr) (H':Hp),H p=none->Same H H'->H' p=some (.tup (cellT (go c i)))->Q (.ref p) H'
theorem zlv (T:Txt P w K mg) (d:Df K mg "gone" ziT ["x","y","step"]):FnOk P w K mg base CX0 1 d.f d.fd ["x","y","step"] zf5:=by
 refine d.F.ok zgX (λvs H Q E h=>?_) (λcdv A outer s H vs Q E hr h=>?_)
 .obtain⟨c,i,rfl,_⟩:=h;rfl
 .obtain⟨c,i,rfl,hi,k⟩:=h;obtain⟨M,hM,hms⟩:=T.moves;obtain⟨ms,hq,hl,hm⟩:=hms H
  refine⟨_,(zac (zbw (pe_ix zat (zdY (v:=.ref M) rfl hM rfl) (pv 2) (λ_ _=>rfl)) (zbl (by rfl) (zah (nG 3 zgX.nd) (zah (nG 4 zgX.nd) zaG))))
   (zaf (zaj (zav (pa_B (pe_op zaF (pv 0) (pv 3)) (pa_B (pe_op zaF (pv 1) (pv 4)) zad)))))),?_⟩
  have hi':i<ms.length:=by lia
  have e1:ms[i]?=some ms[i]:=by simp[hi']
  refine⟨_,rfl,M,_,(i:Int),.ref ms[i],rfl,rfl,hq,zai (by simp[hi']),ms[i],_,rfl,hm i _ e1,rfl,_,_,rfl,_,_,rfl,rfl,?_⟩;refine⟨_,rfl,_,rfl,_,_,rfl,rfl,_,rfl,_,rfl,_,_,rfl,rfl,two,λp hp=>?_⟩;exact k p _ hp (Same.up hp) zaa
noncomputable def zc9:Sp:=λvs H Q _=>∃w:Nat,vs=[.int w]/\w<4/\Q (.int (2*w:Nat)) H
theorem zdu (d:Df K mg "straight_step" zbF ["way"]):FnOk P w K mg base CX0 1 d.f d.fd ["way"] zc9:=by
 refine d.F.ok zdr (λvs H Q E h=>?_) (λcdv A outer s H vs Q E hr h=>?_)
 .obtain⟨w,rfl,_⟩:=h;rfl
 .obtain⟨w,rfl,hw,k⟩:=h;refine⟨_,(zaf (zaj (pe_op zbK zab (pv 0)))),?_⟩;refine⟨_,rfl,_,_,rfl,rfl,.inl ⟨by decide,by decide⟩,?_⟩;have e:(2*(w:Int))=((2*w:Nat):Int):=by lia
  show Q (.int (2*(w:Int))) H;rw[e];exact k
noncomputable def zgS:Sp:=λvs H Q _=>∃w:Nat,vs=[.int w]/\w<4/\Q (.int ((2*w+7) % 8:Nat)) H
theorem zfm (d:Df K mg "slant_step" zck ["way"]):FnOk P w K mg base CX0 1 d.f d.fd ["way"] zgS:=by
 refine d.F.ok zfa (λvs H Q E h=>?_) (λcdv A outer s H vs Q E hr h=>?_)
 .obtain⟨w,rfl,_⟩:=h;rfl
 .obtain⟨w,rfl,hw,k⟩:=h;refine⟨_,(zaf (zaj (pe_op zaN (pe_op zaF (pe_op zbK zab (pv 0)) zab) zab))),?_⟩;refine⟨_,rfl,_,_,rfl,rfl,.inl ⟨by decide,by decide⟩,_,_,rfl,rfl,_,_,rfl,rfl,(by show (0:Int)<8;decide),?_⟩;have e:(2*(w:Int)+7) % 8=(((2*w+7) % 8:Nat):Int):=by lia
  show Q (.int ((2*(w:Int)+7) % 8)) H;rw[e];exact k
noncomputable def zcU:Sp:=λvs H Q _=>∃o:Option Nat,vs=[sv o]/\Q (.bl (slant o)) H
theorem zg4 (d:Df K mg "is_slant" zda ["step"]):FnOk P w K mg base CX0 1 d.f d.fd ["step"] zcU:=by
 refine d.F.ok zgW (λvs H Q E h=>?_) (λcdv A outer s H vs Q E hr h=>?_)
 .obtain⟨o,rfl,_⟩:=h;rfl
 .obtain⟨o,rfl,k⟩:=h;refine⟨_,(zaf (zaj (zdZ (zaT zdf (pv 0) zbm (zan _)) (zeS (zaT op_eq (pe_op zaN (pv 0) zab) zab (zan _)))))),?_⟩
  cases o with
  |none=>exact⟨_,rfl,rfl,false,rfl,iteF k⟩
  |some n =>
   refine⟨_,rfl,rfl,true,rfl,iteT ⟨_,rfl,_,_,rfl,rfl,(by show (0:Int)<2;decide),rfl,?_⟩⟩
   have e:decide (V.int ((n:Int) % 2)=V.int 1)=slant (some n):=by
    show _=(n % 2 == 1)
    by_cases q:n % 2=1
    .rw[decide_eq_true (by rw[show (n:Int) % 2=1 by lia]),q];rfl
    .rw[decide_eq_false (λz=>by injection z with z;lia)];simp[q]
   rw[<- e]at k;exact k
noncomputable def spGap(K:W.Frag):Sp:=λvs H Q _=>∃(a:Addr) (e:Edge),vs=[.ref a]/\SqT K H a (edgeT e)/\e.w<4/\∀(p:Addr) (H':Hp),H p=none->Same H H'->H' p=some (.tup (cellT (gap e)))->Q (.ref p) H'
theorem zfs (g_gone:Fn P w K mg base 1 "gone" ["x","y","step"] zf5) (d:Df K mg "gap_beside" zcl ["edge"]):FnOk P w K mg base CX0 2 d.f d.fd ["edge"] (spGap K):=by
 refine d.F.ok zbx (λvs H Q E h=>?_) (λcdv A outer s H vs Q E hr h=>?_)
 .obtain⟨a,e,rfl,_⟩:=h;rfl
 .obtain⟨a,e,rfl,hq,hw,k⟩:=h
  refine⟨_,(zac (zbw (pv 0) (zbl (by rfl) (zah (nG 1 zbx.nd) (zah (nG 2 zbx.nd) (zah (nG 3 zbx.nd) zaG)))))
   (zaf (zaj (pC g_gone hr (pa_N (pv 1) (pa_N (pv 2) (pa_B (pe_op zaN (pe_op zaF (pe_op zbK zab (pv 3)) zab) zab) zad))))))),?_⟩
  refine⟨_,rfl,a,_,rfl,hq,rfl,_,_,rfl,_,_,rfl,_,_,rfl,rfl,?_⟩;have e6:(2*(e.w:Int)+6) % 8=(((2*e.w+6) % 8:Nat):Int):=by lia
  refine⟨_,rfl,_,rfl,_,rfl,_,_,rfl,rfl,.inl ⟨by decide,by decide⟩,_,_,rfl,rfl,_,_,rfl,rfl,(by show (0:Int)<8;decide),e.c,(2*e.w+6) % 8,(by rw[<- e6];rfl),by lia,λp H' hp hS hH=>k p H' hp hS hH⟩
theorem iteN{b:Bool}{A B:Prop}(h:b=false)(q:B):if b=true then A else B:=by subst h;exact iteF q
theorem iteY{b:Bool}{A B:Prop}(h:b=true)(q:A):if b=true then A else B:=by subst h;exact iteT q
theorem ze3{tb:TS}{D:Ends}{σ:St}{H:Hp}(h:tb D σ H):tIfs (λ_ H Q=>Q true H) tb D σ H:=by
 show if true=true then tb D σ H else D.nx σ H
 exact iteT h
theorem gN{j:Nat}{v:V}{σ:St}{H:Hp}{tb:TS}{D:Ends}(h:tb D (σ.set j (some v)) H):gName j v σ H λσ2 H2=>tIfs (λ_ H Q=>Q true H) tb D σ2 H2:=ze3 h
noncomputable def LR{α:Type}(K:W.Frag)(H:Hp)(a:Addr)(l:List α)(R:α->V->Hp->Prop):Prop:=∃vs:List V,SqL K H a vs/\vs.length=l.length/\∀(i:Nat) x v,l[i]?=some x->vs[i]?=some v->R x v H
noncomputable def cR(c:Cell)(v:V)(H:Hp):Prop:=∃b,v=.ref b/\H b=some (.tup (cellT c))
noncomputable def eR(e:Edge)(v:V)(H:Hp):Prop:=∃b,v=.ref b/\H b=some (.tup (edgeT e))
noncomputable def wR(q:Edge×Option Nat)(v:V)(H:Hp):Prop:=∃A b,v=.ref A/\H A=some (.tup [.ref b,sv q.2])/\H b=some (.tup (edgeT q.1))
theorem cR.same{c:Cell}{v:V}{H H':Hp}(h:cR c v H)(s:Same H H'):cR c v H':=let ⟨b,e,q⟩:=h;⟨b,e,s _ _ q⟩
theorem eR.same{c:Edge}{v:V}{H H':Hp}(h:eR c v H)(s:Same H H'):eR c v H':=let ⟨b,e,q⟩:=h;⟨b,e,s _ _ q⟩
theorem wR.same{c:Edge×Option Nat}{v:V}{H H':Hp}(h:wR c v H)(s:Same H H'):wR c v H':=let ⟨A,b,e,q,r⟩:=h;⟨A,b,e,s _ _ q,s _ _ r⟩
theorem LR.same{α:Type}{K:W.Frag}{H H':Hp}{a:Addr}{l:List α}{R:α->V->Hp->Prop}(h:LR K H a l R)(s:Same H H')(m:∀x v,R x v H->R x v H'):LR K H' a l R :=
 let ⟨vs,q,n,r⟩:=h;⟨vs,s.seq q,n,λi x v h1 h2=>m x v (r i x v h1 h2)⟩
theorem za6{α:Type}{l:List α}{i:Nat}{x c:α}(h:l[i]?=some x):c∈l.take (i+1) ↔ c∈l.take i∨c=x:=by rw[List.take_succ,h,Aj];exact⟨λz=>z.elim .inl λz=>.inr (Ah.mp z),λz=>z.elim .inl λz=>.inr (List.mem_singleton.mpr z)⟩
noncomputable def InOrd(cs:List Cell):Prop:=∀(i:Nat) c d,cs[i]?=some c->cs[i+1]?=some d->HT.lexLt [c.2,c.1] [d.2,d.1]=true
noncomputable def spAsk(K:W.Frag):Sp:=λvs H Q _=>∃(a:Addr) (cs:List Cell),vs=[.ref a]/\LR K H a cs cR/\InOrd cs/\cs.length<=1000/\∀H',Same H H'->Q (.bl true) H'
theorem zeA (T:Txt P w K mg) (g_cell_order:Fn P w K mg base 1 "cell_order" ["cell"] (zgT K)) (d:Df K mg "ask_picture" zb8 ["picture"]):FnOk P w K mg base CX0 2 d.f d.fd ["picture"] (spAsk K):=by
 refine d.F.ok zcA (λvs H Q E h=>?_) (λcdv A outer s H vs Q E hr h=>?_)
 .obtain⟨a,cs,rfl,_⟩:=h;rfl
 .obtain⟨a,cs,rfl,⟨ws,hq,hn,hc⟩,ho,hlen,k⟩:=h;have hu0:=hr.units0
  refine⟨_,(zac (zbI Bd rfl (zja (by rfl) T.nrange (pa_C zab (zag (zaw zaK (by rfl) T.nlen (by rfl) (pa_N (pv 0) zad)) zad))) (nG 1 zcA.nd)
   (zaf (ps_if (zao (zmc hu0) (pC g_cell_order hr (zag (pe_ix zaE (pv 0) (pv 1) (λ_ _=>rfl)) zad)) (pC g_cell_order hr (zag (pe_ix zaE (pv 0) (pe_op zbi (pv 1) zab) (λ_ _=>rfl)) zad)) (zan _))
   (zaf zj6)
   zas)))
   (zaf (zaj pe_bl))),?_⟩
  refine⟨_,rfl,a,_,rfl,.inl hq,_,_,rfl,⟨by decide,by decide,by lia,by lia⟩,?_⟩;refine zbN (lo:=1) (n:=((ws.length:Int)-1).toNat) (λi σ H2=>∃o,σ=[some (.ref a),o]/\Same H H2) ⟨_,rfl,Same.refl _⟩ ?_ ?_
  .rintro i σ H2 hi ⟨o,rfl,s2⟩;have h1:i+1<ws.length:=by lia
   have v1:ws[i+1]?=some ws[i+1]:=Aa h1;have v0:ws[i]?=some ws[i]:=Aa (by lia)
   have c1:cs[i+1]?=some cs[i+1]:=Aa (by lia)
   have c0:cs[i]?=some cs[i]:=Aa (by lia)
   obtain⟨b1,e1,q1⟩:=hc (i+1) _ _ c1 v1;obtain⟨b0,e0,q0⟩:=hc i _ _ c0 v0;refine⟨_,rfl,_,rfl,a,_,_,_,rfl,rfl,s2.seq hq,(by rw[show (1:Int)+(i:Int)=((i+1:Nat):Int) by lia];exact zai v1),b1,_,_,[],(by rw[e1];rfl),SqT.of (s2 _ _ q1),λp1 H3 hp1 s3 f1=>?_⟩;refine⟨_,rfl,_,rfl,_,_,rfl,rfl,a,_,_,_,rfl,rfl,(s2.trans s3).seq hq,(by rw[show (1:Int)+(i:Int)-1=(i:Int) by lia];exact zai v0),b0,_,_,[],(by rw[e0];rfl),SqT.of ((s2.trans s3) _ _ q0),λp0 H4 hp0 s4 f0=>?_⟩;refine⟨p1,p0,[cs[i+1].2,cs[i+1].1],[cs[i].2,cs[i].1],rfl,rfl,SqT.of (s4 _ _ f1),SqT.of f0,_,rfl,iteN ?_ ?_⟩
   .rw[HT.lexLe_eq,ho i _ _ c0 c1];rfl
   .exact⟨_,rfl,(s2.trans s3).trans s4⟩
  .rintro σ H2 ⟨o,rfl,s2⟩;exact k H2 s2
noncomputable def kC(c:Cell):List Key:=[Dj c.1,Dj c.2]
theorem zgy{c d:Cell}:kC c=kC d ↔ c=d:=by
 constructor
 .intro h;unfold kC at h;injection h with h1 h2;injection h2 with h2 _;exact Prod.ext (Sum.inl.inj h1) (Sum.inl.inj h2)
 .rintro rfl;rfl
noncomputable def zgR(K:W.Frag):Sp:=λvs H Q _=>∃(a:Addr) (cs:List Cell),vs=[.ref a]/\LR K H a cs cR/\cs.length<=1000/\∀t H',H t=none->Same H H'->Tab H' t (isIn cs)->Q (.ref t) H'
theorem zft (d:Df K mg "cell_table" zbO ["picture"]):FnOk P w K mg base CX0 1 d.f d.fd ["picture"] (zgR K):=by
 refine d.F.ok zfb (λvs H Q E h=>?_) (λcdv A outer s H vs Q E hr h=>?_)
 .obtain⟨a,cs,rfl,_⟩:=h;rfl
 .obtain⟨a,cs,rfl,⟨ws,hq,hn,hc⟩,hlen,k⟩:=h;have hu1:=hu_of hr;have nb0:(["cell"]:List Str).Nodup:=by decide +kernel
  refine⟨_,(zaf (zaj (zka hu1 (osc:=zae zbO) (N:=zdp) (N':=["cell"]) (sel:=[none]) bO (zaS (pv 0)) (λ_ _ _ _ _=>(nG 0 nb0)) (λ_ _ _ _ _=>zbq) (λ_ _ _ _ _=>(pv 0)) (λ_ _ _ _ _=>pe_bl)))),?_⟩;refine⟨_,rfl,a,rfl,⟨_,hq⟩,λp hp=>?_⟩
  refine zaH (K:=K) (a:=a) (xs:=ws) (λi σ H2=>∃o,σ=[o]/\Same H H2/\∃kvs,H2 p=some (.dT kvs)/\kvs.length<=i/\∀c:Cell,(valV kvs (kC c)).isSome=decide (c∈cs.take i))
   ⟨_,rfl,Same.up hp,[],zaa,Ai _,λc=>by simp[valV]⟩ (λi σ H2 _ ⟨_,_,s2,_⟩=>s2.seq hq) ?_ ?_
  .rintro i v σ H2 hi ⟨o,rfl,s2,kvs,e2,hl,hv⟩;have hil:i<ws.length:=(Ac.mp hi).1;have ci:cs[i]?=some cs[i]:=Aa (by lia)
   obtain⟨b,rfl,q⟩:=hc i _ _ ci hi;refine gN ?_
   refine⟨_,rfl,_,.inr ⟨kvs,kC cs[i],b,e2,rfl,s2 _ _ q,zay (by lia),rfl⟩,_,rfl,λz o e=>?_,_,zaa,?_,λc=>?_⟩
   .rw[zam (zal e hp)];exact s2 z o e
   .exact Bf (zaV _ _ _) (by lia)
   .rw[zdx]
    by_cases e:c=cs[i]
    .rw[if_pos (zgy.mpr e),decide_eq_true ((za6 ci).mpr (.inr e))];rfl
    .rw[if_neg (λz=>e (zgy.mp z)),hv];exact decide_eq_decide.mpr ⟨λz=>(za6 ci).mpr (.inl z),λz=>((za6 ci).mp z).resolve_right e⟩
  .rintro σ H2 ⟨o,rfl,s2,kvs,e2,hl,hv⟩;refine k p H2 hp s2 ⟨kvs,e2,λc=>?_⟩;show (valV kvs (kC c)).isSome=isIn cs c;rw[hv,hn,AL];rfl
noncomputable def ziG(K:W.Frag):Sp:=λvs H Q _=>∃(t a:Addr) (C:Cell->Bool) (e:Edge),vs=[.ref t,.ref a]/\Tab H t C/\SqT K H a (edgeT e)/\e.w<4/\∀H',Same H H'->Q (sv (stepB C e)) H'
theorem zes (g_gone:Fn P w K mg base 1 "gone" ["x", "y", "step"] zf5) (g_slant_step:Fn P w K mg base 1 "slant_step" ["way"] zgS) (g_straight_step:Fn P w K mg base 1 "straight_step" ["way"] zc9)
  (d:Df K mg "step_behind" zb3 ["table","edge"]):FnOk P w K mg base CX0 2 d.f d.fd ["table","edge"] (ziG K):=by
 refine d.F.ok zba (λvs H Q E h=>?_) (λcdv A outer s H vs Q E hr h=>?_)
 .obtain⟨t,a,C,e,rfl,_⟩:=h;rfl
 .obtain⟨t,a,C,e,rfl,⟨kvs,ht,hC⟩,hq,hw,k⟩:=h;have hu1:=hu_of hr
  refine⟨_,(zac (zbw (pv 1) (zbl (by rfl) (zah (nG 2 zba.nd) (zah (nG 3 zba.nd) (zah (nG 4 zba.nd) zaG)))))
   (zac (zbI Bd rfl (zdX (zav (zag (pC g_slant_step hr (pa_N (pv 4) zad)) (zag (pC g_straight_step hr (pa_N (pv 4) zad)) zad)))) (nG 5 zba.nd)
   (zaf (ps_if (zi3 (zkL hu1 (pC g_gone hr (pa_N (pv 2) (pa_N (pv 3) (pa_N (pv 5) zad)))) (pv 0)))
   (zaf (zaj (pv 5)))
   zas)))
   (zaf (zaj zbm)))),?_⟩
  refine⟨_,rfl,a,_,rfl,hq,rfl,_,_,rfl,_,_,rfl,_,_,rfl,rfl,?_⟩;refine⟨_,rfl,e.w,rfl,hw,_,rfl,e.w,rfl,hw,two,λp hp=>⟨p,rfl,⟨_,SqT.of zaa⟩,?_⟩⟩
  refine zdh (K:=K) (a:=p) (xs:=[.int ((2*e.w+7) % 8:Nat),.int (2*e.w:Nat)]) (λi σ H2=>∃o,σ=[some (.ref t),some (.ref a),some (.int e.c.1),some (.int e.c.2),some (.int e.w),o]/\Same (upd H p (.tup [.int ((2*e.w+7) % 8:Nat),.int (2*e.w:Nat)])) H2/\(1<=i->C (go e.c ((2*e.w+7) % 8))=false)/\(2<=i->C (go e.c (2*e.w))=false))
   ⟨_,rfl,Same.refl _,λh=>absurd h (by decide),λh=>absurd h (by decide)⟩ (λi σ H2 _ ⟨_,_,s2,_⟩=>s2.seqT (SqT.of zaa)) ?_ ?_
  .rintro i v σ H2 hi ⟨o,rfl,s2,n1,n2⟩;have sH:Same H H2:=(Same.up hp).trans s2
   match i,hi with
   | 0,hi =>
    cases hi
    refine⟨_,rfl,_,rfl,_,rfl,e.c,(2*e.w+7) % 8,rfl,by lia,λp1 H3 hp1 s3 f1=>?_⟩;refine⟨_,rfl,t,_,rfl,.inr ⟨kvs,kC (go e.c ((2*e.w+7) % 8)),p1,Rd.of ((sH.trans s3) _ _ ht),rfl,f1,rfl⟩,_,rfl,?_⟩;have hv:=hC (go e.c ((2*e.w+7) % 8));change (valV kvs (kC (go e.c ((2*e.w+7) % 8)))).isSome=_ at hv;rw[hv];refine ite2 (λhy=>?_) (λhn=>?_)
    .refine⟨_,rfl,?_⟩;have:=k H3 (sH.trans s3);unfold stepB at this;rw[if_pos hy]at this;exact this
    .exact⟨_,rfl,s2.trans s3,λ_=>by simpa using hn,λh=>absurd h (by decide)⟩
   | 1,hi =>
    cases hi
    refine⟨_,rfl,_,rfl,_,rfl,e.c,2*e.w,rfl,by lia,λp1 H3 hp1 s3 f1=>?_⟩;refine⟨_,rfl,t,_,rfl,.inr ⟨kvs,kC (go e.c (2*e.w)),p1,Rd.of ((sH.trans s3) _ _ ht),rfl,f1,rfl⟩,_,rfl,?_⟩;have hv:=hC (go e.c (2*e.w));change (valV kvs (kC (go e.c (2*e.w)))).isSome=_ at hv;rw[hv];have h1:=n1 (by decide);refine ite2 (λhy=>?_) (λhn=>?_)
    .refine⟨_,rfl,?_⟩;have:=k H3 (sH.trans s3);unfold stepB at this;rw[h1,if_neg (by decide),if_pos hy]at this;exact this
    .exact⟨_,rfl,s2.trans s3,λ_=>h1,λ_=>by simpa using hn⟩
   |i+2,hi=>simp at hi
  .rintro σ H2 ⟨o,rfl,s2,n1,n2⟩;have:=k H2 ((Same.up hp).trans s2);unfold stepB at this;rw[n1 (by simp),n2 (by simp),if_neg (by decide),if_neg (by decide)]at this;exact this
noncomputable def zdM(K:W.Frag):Sp:=λvs H Q _=>∃(a:Addr) (e:Edge) (o:Option Nat),vs=[.ref a,sv o]/\SqT K H a (edgeT e)/\e.w<4/\(∀s,o=some s->s<8)/\∀(p:Addr) (H':Hp),H p=none->Same H H'->H' p=some (.tup (edgeT (edgeB e o)))->Q (.ref p) H'
theorem zex (g_gone:Fn P w K mg base 1 "gone" ["x", "y", "step"] zf5) (g_is_slant:Fn P w K mg base 1 "is_slant" ["step"] zcU)
  (d:Df K mg "edge_behind" zb6 ["edge","step"]):FnOk P w K mg base CX0 2 d.f d.fd ["edge","step"] (zdM K):=by
 refine d.F.ok zaY (λvs H Q E h=>?_) (λcdv A outer s H vs Q E hr h=>?_)
 .obtain⟨a,e,o,rfl,_⟩:=h;rfl
 .obtain⟨a,e,o,rfl,hq,hw,ho,k⟩:=h
  refine⟨_,(zac (zbw (pv 0) (zbl (by rfl) (zah (nG 2 zaY.nd) (zah (nG 3 zaY.nd) (zah (nG 4 zaY.nd) zaG)))))
   (zac (ps_if (zao zge (pv 1) zbm (zan _))
   (zaf (zaj (zav (pa_N (pv 2) (pa_N (pv 3) (pa_B (pe_op zaN (pe_op zaF (pv 4) zab) zab) zad))))))
   zas)
   (zac (zbw (pC g_gone hr (pa_N (pv 2) (pa_N (pv 3) (pa_N (pv 1) zad)))) (zbl (by rfl) (zah (nG 5 zaY.nd) (zah (nG 6 zaY.nd) zaG))))
   (zac (ps_if (zco (pC g_is_slant hr (pa_N (pv 1) zad)))
   (zaf (zaj (zav (pa_N (pv 5) (pa_N (pv 6) (pa_B (pe_op zaN (pe_op zaF (pv 4) zab) zab) zad))))))
   zas)
   (zaf (zaj (zav (pa_N (pv 5) (pa_N (pv 6) (pa_N (pv 4) zad)))))))))),?_⟩
  refine⟨_,rfl,a,_,rfl,hq,rfl,_,_,rfl,_,_,rfl,_,_,rfl,rfl,?_⟩
  cases o with
  |none =>
   refine⟨_,rfl,rfl,true,rfl,iteT ?_⟩;refine⟨_,rfl,_,rfl,_,rfl,_,_,rfl,rfl,_,_,rfl,rfl,(by show (0:Int)<4;decide),three,λp hp=>k p _ hp (Same.up hp) ?_⟩;rw[zaa];have e1:((e.w:Int)+1) % 4=(((e.w+1) % 4:Nat):Int):=by lia
   show some (HO.tup [.int e.c.1,.int e.c.2,.int (((e.w:Int)+1) % 4)])=_;rw[e1];rfl
  |some n =>
   refine⟨_,rfl,rfl,false,rfl,iteF ?_⟩;refine⟨_,rfl,_,rfl,_,rfl,e.c,n,rfl,ho n rfl,λp1 H1 hp1 s1 f1=>?_⟩;refine⟨p1,_,rfl,SqT.of f1,rfl,_,_,rfl,_,_,rfl,rfl,?_⟩;refine⟨_,rfl,some n,rfl,_,rfl,?_⟩;refine ite2 (λhs=>?_) (λhs=>?_)
   .refine⟨_,rfl,_,rfl,_,rfl,_,_,rfl,rfl,_,_,rfl,rfl,(by show (0:Int)<4;decide),three,λp hp=>k p _ (s1.free hp) (s1.trans (Same.up hp)) ?_⟩;rw[zaa];have e1:((e.w:Int)+3) % 4=(((e.w+3) % 4:Nat):Int):=by lia
    have hn:n % 2=1:=by simpa[slant]using hs
    show some (HO.tup [.int (go e.c n).1,.int (go e.c n).2,.int (((e.w:Int)+3) % 4)])=_;rw[e1];unfold edgeB;simp only[if_pos hn];rfl
   .refine⟨_,rfl,_,rfl,_,rfl,three,λp hp=>k p _ (s1.free hp) (s1.trans (Same.up hp)) ?_⟩;rw[zaa];have hn:¬ n % 2=1:=by simpa[slant]using hs
    unfold edgeB;simp only[if_neg hn];rfl
noncomputable def KT(H H':Hp):Prop:=∀b xs,H b=some (.tup xs)->H' b=some (.tup xs)
theorem KT.refl(H:Hp):KT H H:=λ_ _ h=>h
theorem KT.trans{H H1 H2:Hp}(a:KT H H1)(b:KT H1 H2):KT H H2:=λc o h=>b c o (a c o h)
theorem KT.of{H H':Hp}(s:Same H H'):KT H H':=λb xs e=>s b _ e
theorem KT.up{H:Hp}{p:Addr}{o:HO}(h:H p=none):KT H (upd H p o):=KT.of (Same.up h)
theorem KT.lst{H:Hp}{p:Addr}{xs:List V}{o:HO}(h:H p=some (.lst xs)):KT H (upd H p o):=λb ys e=>by rw[zam (ne_of e h (λz=>nomatch z))];exact e
theorem cR.kt{c:Cell}{v:V}{H H':Hp}(h:cR c v H)(s:KT H H'):cR c v H':=let ⟨b,e,q⟩:=h;⟨b,e,s _ _ q⟩
theorem eR.kt{c:Edge}{v:V}{H H':Hp}(h:eR c v H)(s:KT H H'):eR c v H':=let ⟨b,e,q⟩:=h;⟨b,e,s _ _ q⟩
theorem wR.kt{c:Edge×Option Nat}{v:V}{H H':Hp}(h:wR c v H)(s:KT H H'):wR c v H':=let ⟨A,b,e,q,r⟩:=h;⟨A,b,e,s _ _ q,s _ _ r⟩
noncomputable def VR{α:Type}(vs:List V)(l:List α)(R:α->V->Hp->Prop)(H:Hp):Prop:=vs.length=l.length/\∀(i:Nat) x v,l[i]?=some x->vs[i]?=some v->R x v H
theorem VR.nil{α:Type}{R:α->V->Hp->Prop}{H:Hp}:VR [] ([]:List α) R H:=⟨rfl,λi x v h=>by simp at h⟩
theorem VR.snoc{α:Type}{vs:List V}{l:List α}{R:α->V->Hp->Prop}{H H':Hp}{x:α}{v:V}(h:VR vs l R H)(m:∀x v,R x v H->R x v H')(hx:R x v H'):VR (vs++[v]) (l++[x]) R H':=by
 refine⟨by simp[h.1],λi y u h1 h2=>?_⟩;rcases A8 i l.length with hi |hi
 .rw[Ar hi]at h1;rw[Ar (by rw[h.1];exact hi)]at h2;exact m _ _ (h.2 i y u h1 h2)
 .rw[AJ hi]at h1;rw[AJ (by rw[h.1];exact hi)]at h2
  have hz:i-l.length=0:=by have:=(Ac.mp h1).1;simp at this;lia
  rw[hz]at h1;rw[h.1,hz]at h2
  cases h1;cases h2
  exact hx
theorem VR.mono{α:Type}{vs:List V}{l:List α}{R:α->V->Hp->Prop}{H H':Hp}(h:VR vs l R H)(m:∀x v,R x v H->R x v H'):VR vs l R H':=⟨h.1,λi x v h1 h2=>m _ _ (h.2 i x v h1 h2)⟩
theorem VR.at{α:Type}{vs:List V}{l:List α}{R:α->V->Hp->Prop}{H:Hp}(h:VR vs l R H){i:Nat}{v:V}(hv:vs[i]?=some v):∃x,l[i]?=some x/\R x v H:=by
 have hi:i<l.length:=by rw[<- h.1];exact (Ac.mp hv).1
 exact⟨l[i],Aa hi,h.2 i _ v (Aa hi) hv⟩
theorem zar{H H2:Hp}{p:Addr}{o:HO}(hp:H p=none)(s:Same H H2):Same H (upd H2 p o):=λz u e=>by rw[zam (zal e hp)];exact s z u e
theorem zh8(cs:List Cell)(c:Cell):sides (cs++[c])=sides cs++(BD 4).map λw=>⟨c,w⟩:=by unfold sides;simp[List.flatMap_append]
theorem zaC{α:Type}{l:List α}{i:Nat}{x:α}(h:l[i]?=some x):l.take (i+1)=l.take i++[x]:=by rw[List.take_succ,h];rfl
theorem zcc{α:Type}(p:α->Bool)(l:List α)(x:α):(l++[x]).filter p=l.filter p++(if p x=true then [x] else []):=by rw[C1];congr 1;simp[BG]
noncomputable def zkH(K:W.Frag):Sp:=λvs H Q _=>∃(a:Addr) (cs:List Cell),vs=[.ref a]/\LR K H a cs cR/\cs.length<=120/\∀p H' es,H p=none->Same H H'->H' p=some (.lst es)->VR es (allE cs) eR H'->Q (.ref p) H'
theorem zgj (T:Txt P w K mg) (g_cell_table:Fn P w K mg base 1 "cell_table" ["picture"] (zgR K)) (g_gap_beside:Fn P w K mg base 2 "gap_beside" ["edge"] (spGap K))
  (d:Df K mg "all_edges" zbG ["picture"]):FnOk P w K mg base CX0 3 d.f d.fd ["picture"] (zkH K):=by
 refine d.F.ok zci (λvs H Q E h=>?_) (λcdv A outer s H vs Q E hr h=>?_)
 .obtain⟨a,cs,rfl,_⟩:=h;rfl
 .obtain⟨a,cs,rfl,hLR,hlen,k⟩:=h;obtain⟨ws,hq,hn,hc⟩:=id hLR;have hu1:=hu_of hr;have nb0:(["x","y","way"]:List Str).Nodup:=by decide +kernel
  have nb1:(["edge","table"]:List Str).Nodup:=by decide +kernel
  refine⟨_,(zac (zi4 (i:=1) zci.nd (by rfl) (Or.inr rfl) (pC g_cell_table hr (pa_N (pv 0) zad)))
   (zac (zi6 (i:=2) (osc:=zae zbG) (N:=zcR) (N':=["x","y","way"]) (sel:=[none,none,none]) bO zci.nd (by rfl) (Or.inl rfl) (zaS (pv 0)) (λ_ _ _ _ _=>(zcK (K:=K) (n:=2) (by rfl) (zah (nG 0 nb0) (zah (nG 1 nb0) zaG)))) (λ_ _ _ _ _=>zbq) (λ_ _ _ _ _=>(zb0 (by rfl) T.nrange (pa_C zab zad))) (λ_ _ _ _ _=>(nG 2 nb0)) (λ_ _ _ _ _=>zbq) (λ_ _ _ _ _=>(zav (pa_N (pv 0) (pa_N (pv 1) (pa_N (pv 2) zad))))) (λ_ _ _=>rfl))
   (zaf (zaj (za3 (osc:=zae zbG) (N:=zcR) (N':=["edge","table"]) (sel:=[none,some 1]) bO (zaS (pv 2)) (λ_ _ _ _ _=>(nG 0 nb1)) (λ_ _ _ _ _=>zde (zi3 (zgc hu1 (pC g_gap_beside hr (pa_N (pv 0) zad)) (pv 1)))) (λ_ _ _ _ _=>(pv 0))))))),?_⟩
  refine⟨_,rfl,a,cs,rfl,hLR,by lia,λt H1 ht s1 tab=>?_⟩;obtain⟨kvs,et,hC⟩:=tab;refine⟨_,rfl,a,rfl,⟨_,s1.seq hq⟩,λp hp=>?_⟩
  refine zaH (K:=K) (a:=a) (xs:=ws) (λi σ H2=>∃o1 o2 o3,σ=[o1,o2,o3]/\Same H1 H2/\∃es,H2 p=some (.lst es)/\VR es (sides (cs.take i)) eR H2)
   ⟨_,_,_,rfl,Same.up hp,[],zaa,VR.nil⟩ (λi σ H2 _ ⟨_,_,_,_,s2,_⟩=>(s1.trans s2).seq hq) ?_ ?_
  .rintro i v σ H2 hi ⟨o1,o2,o3,rfl,s2,es,e2,hv⟩;have hil:i<ws.length:=(Ac.mp hi).1;have ci:cs[i]?=some cs[i]:=Aa (by lia)
   obtain⟨b,rfl,qb⟩:=hc i _ _ ci hi;refine⟨b,_,rfl,SqT.of ((s1.trans s2) _ _ qb),rfl,_,_,rfl,_,_,rfl,rfl,?_⟩;refine ze3 ?_
   refine⟨4,rfl,by decide,by decide,?_⟩
   refine zbN (lo:=0) (n:=4) (λj σ H3=>∃o,σ=[some (.int cs[i].1),some (.int cs[i].2),o]/\Same H1 H3/\∃es,H3 p=some (.lst es)/\VR es (sides (cs.take i)++(BD j).map λw=>⟨cs[i],w⟩) eR H3)
    ⟨_,rfl,s2,es,e2,by simpa using hv⟩ ?_ ?_
   .rintro j σ H3 hj ⟨o,rfl,s3,es3,e3,hv3⟩
    have hl3:es3.length<=1000:=by rw[hv3.1,Af,zbt,AX,Am,List.length_range];lia
    refine gN ?_
    refine⟨_,rfl,_,rfl,_,rfl,three,λq hq'=>⟨es3,?_,zay hl3,_,rfl,zar hp (s3.trans (Same.up hq')),_,zaa,?_⟩⟩
    .rw[zam (zal e3 hq')];exact e3
    .rw[List.range_succ,Bc,<- AC];have hpq:p≠q:=zal e3 hq';have k2:KT (upd H3 q (.tup [.int cs[i].1,.int cs[i].2,.int (0+(j:Int))])) (upd (upd H3 q (.tup [.int cs[i].1,.int cs[i].2,.int (0+(j:Int))])) p (.lst (es3++[.ref q]))):=KT.lst (xs:=es3) (by rw[zam hpq];exact e3);refine hv3.snoc (λx v hx=>hx.kt ((KT.up hq').trans k2)) ⟨q,rfl,k2 _ _ ?_⟩;rw[zaa];show some (HO.tup [.int cs[i].1,.int cs[i].2,.int (0+(j:Int))])=some (HO.tup [.int cs[i].1,.int cs[i].2,.int (j:Int)]);rw[Int.zero_add]
   .rintro σ H3 ⟨o,rfl,s3,es3,e3,hv3⟩;exact⟨_,_,_,rfl,s3,es3,e3,by rw[zaC ci,zh8];exact hv3⟩
  .rintro σ H2 ⟨o1,o2,o3,rfl,s2,es,e2,hv⟩;rw[hn,AL]at hv;have hles:es.length<=1000:=by rw[hv.1,zbt];lia
   refine⟨_,rfl,p,rfl,⟨_,SqL.of e2⟩,λp2 hp2=>?_⟩
   refine zaH (K:=K) (a:=p) (xs:=es) (λi σ H3=>∃o,σ=[o,some (.ref t)]/\Same H2 H3/\∃es3,H3 p2=some (.lst es3)/\VR es3 (((sides cs).take i).filter λe=>!isIn cs (gap e)) eR H3)
    ⟨_,rfl,Same.up hp2,[],zaa,VR.nil⟩ (λi σ H3 _ ⟨_,_,s3,_⟩=>s3.seq (SqL.of e2)) ?_ ?_
   .rintro i v σ H3 hi ⟨o,rfl,s3,es3,e3,hv3⟩;obtain⟨e,he,b,rfl,qb⟩:=hv.at hi;have hw4:e.w<4:=(zcX.mp (As he)).2
    have hl3:es3.length<=1000:=by have h1:=Cz (λe=>!isIn cs (gap e)) ((sides cs).take i);rw[hv3.1];rw[AX,zbt]at h1;lia
    refine⟨_,rfl,b,e,rfl,SqT.of (s3 _ _ qb),hw4,λp3 H4 hp3 s4 f4=>?_⟩;refine⟨_,rfl,t,_,rfl,.inr ⟨kvs,kC (gap e),p3,Rd.of ((s2.trans (s3.trans s4)) _ _ et),rfl,f4,rfl⟩,_,rfl,?_⟩;have hcv:=hC (gap e);change (valV kvs (kC (gap e))).isSome=_ at hcv;rw[hcv,zaC he,zcc];refine ite2 (λhy=>?_) (λhn'=>?_)
    .refine⟨_,rfl,es3,s4 _ _ e3,zay hl3,_,rfl,zar hp2 (s3.trans s4),_,zaa,?_⟩;rw[if_pos hy];have k2:KT H4 (upd H4 p2 (.lst (es3++[.ref b]))):=KT.lst (s4 _ _ e3);exact hv3.snoc (λx v hx=>hx.kt ((KT.of s4).trans k2)) ⟨b,rfl,k2 _ _ ((s3.trans s4) _ _ qb)⟩
    .refine⟨_,rfl,s3.trans s4,es3,s4 _ _ e3,?_⟩;rw[if_neg hn',AH];exact hv3.mono λx v hx=>hx.kt (KT.of s4)
   .rintro σ H3 ⟨o,rfl,s3,es3,e3,hv3⟩;rw[hv.1,AL]at hv3;exact k p2 H3 es3 (s1.free (s2.free hp2)) (s1.trans (s2.trans s3)) e3 hv3
noncomputable def eI(e:Edge):List Int:=[e.c.1,e.c.2,(e.w:Int)]
theorem zgB{e f:Edge}:eI e=eI f ↔ e=f:=by
 constructor
 .intro h;obtain⟨⟨x,y⟩,w⟩:=e;obtain⟨⟨x',y'⟩,w'⟩:=f;unfold eI at h;injection h with h1 h2;injection h2 with h2 h3;injection h3 with h3 _;simp only at h1 h2 h3;have:w=w':=by lia
  subst h1 h2 this;rfl
 .rintro rfl;rfl
theorem zdc{K:W.Frag}{H:Hp}{b:Addr}{e:Edge}(h:H b=some (.tup (edgeT e))):RD K H (.ref b) (tI (eI e)):=.tup (SqT.of h) (RDs.ints (eI e))
theorem zhp{C:Cell->Bool}{e:Edge}(hw:e.w<4):∀s,stepB C e=some s->s<8:=by
 intro s h;unfold stepB at h;split at h
 .cases h;lia
 .split at h
  .cases h;lia
  .cases h
noncomputable def wk(C:Cell->Bool)(es:List Edge):List (Edge×Option Nat):=es.map λe=>(e,stepB C e)
theorem zk7(C:Cell->Bool)(es:List Edge)(e:Edge):wk C (es++[e])=wk C es++[(e,stepB C e)]:=by unfold wk;simp
theorem zcS(C:Cell->Bool)(es:List Edge):(wk C es).length=es.length:=by unfold wk;simp
noncomputable def zju:Option HO->Nat
 |some (.lst ws)=>ws.length
 |_=>0
noncomputable def zkD(K:W.Frag):Sp:=λvs H Q _=>∃(t a:Addr) (cs:List Cell) (b:Edge),vs=[.ref t,.ref a]/\Tab H t (isIn cs)/\H a=some (.tup (edgeT b))/\IsE (isIn cs) b/\cs.length<=120 /\
 ∀p H' ws es,H p=none->Same H H'->H' p=some (.lst ws)->VR ws (wk (isIn cs) es) wR H'->Closed (isIn cs) b es->Q (.ref p) H'
theorem zgg (g_step_behind:Fn P w K mg base 2 "step_behind" ["table", "edge"] (ziG K)) (g_edge_behind:Fn P w K mg base 2 "edge_behind" ["edge", "step"] (zdM K))
  (d:Df K mg "walk_from" zcF ["table","begin"]):FnOk P w K mg base CX0 3 d.f d.fd ["table","begin"] (zkD K):=by
 refine d.F.ok zbe (λvs H Q E h=>?_) (λcdv A outer s H vs Q E hr h=>?_)
 .obtain⟨t,a,cs,b,rfl,_⟩:=h;rfl
 .obtain⟨t,a,cs,b,rfl,tab,ha,hb,hlen,k⟩:=h;have hu64:=hr.units
  refine⟨_,(zac (sE 2 zbe.nd (pC g_step_behind hr (pa_N (pv 0) (pa_N (pv 1) zad))))
   (zac (sE 3 zbe.nd (zaX (pa_T (zav (pa_N (pv 1) (pa_N (pv 2) zad))) zad)))
   (zac (sE 4 zbe.nd (pC g_edge_behind hr (pa_N (pv 1) (pa_N (pv 2) zad))))
   (zac (zfg Bd (zao (zkO hu64) (pv 4) (pv 1) (zan _))
   (zac (sE 2 zbe.nd (pC g_step_behind hr (pa_N (pv 0) (pa_N (pv 4) zad))))
   (zac (za8 (pe_bm AT AY AZ zaP (pv 3) (pa_T (zav (pa_N (pv 4) (pa_N (pv 2) zad))) zad)))
   (zaf (sE 4 zbe.nd (pC g_edge_behind hr (pa_N (pv 4) (pa_N (pv 2) zad))))))))
   (zaf (zaj (pv 3))))))),?_⟩
  refine⟨_,rfl,_,rfl,t,a,isIn cs,b,rfl,tab,SqT.of ha,hb.1,λH1 s1=>?_⟩;refine⟨_,rfl,_,rfl,two,λq hq=>⟨(by show 1<=sizeLine;decide),λp hp=>?_⟩⟩;have hpq:p≠q:=λz=>by subst z;rw[zaa]at hp;cases hp
  have hp1:H1 p=none:=by rw[zam hpq]at hp;exact hp
  have s2:Same H1 (upd (upd H1 q (.tup [.ref a,sv (stepB (isIn cs) b)])) p (.lst [.ref q])):=zar hp1 (Same.up hq);refine⟨_,rfl,_,rfl,a,b,stepB (isIn cs) b,rfl,SqT.of (s2 _ _ (s1 _ _ ha)),hb.1,zhp hb.1,λr H3 hr3 s3 f3=>?_⟩;have s03:Same H H3:=s1.trans (s2.trans s3);have hp0:H p=none:=s1.free hp1
  refine zjY (λσ H4=>∃ws es l o re,σ=[some (.ref t),some (.ref a),some o,some (.ref p),some (.ref re)]/\Same H H4/\H4 p=some (.lst ws)/\VR ws (wk (isIn cs) (es++[l])) wR H4/\Chain (isIn cs) b (es++[l])/\H4 re=some (.tup (edgeT (nxt (isIn cs) l))))
   (λ_ H4=>4*cs.length+1-zju (H4 p)) ?_ ?_ ?_
  .refine⟨[.ref q],[],b,_,r,rfl,s03,s3 _ _ zaa,⟨rfl,λi x v h1 h2=>?_⟩,Chain.start hb,f3⟩
   match i,h1,h2 with
   | 0,h1,h2 =>
    cases h1;cases h2
    refine⟨q,a,rfl,s3 _ _ ?_,s03 _ _ ha⟩;rw[zam (B8 hpq),zaa]
   |i+1,h1,h2=>simp at h2
  .rintro σ H4 ⟨ws,es,l,o,re,rfl,s4,e4,hv,hch,er⟩;have hw4:(nxt (isIn cs) l).w<4:=(zkS (hch.2.2.1 l (by simp))).1;refine⟨_,rfl,_,rfl,_,_,zdc er,zdc (s4 _ _ ha),zaD _,zaD _,_,rfl,?_⟩;rw[zcC]
   by_cases hne:nxt (isIn cs) l=b
   .rw[decide_eq_true (zgB.mpr hne)];refine iteF ?_
    refine⟨_,rfl,k p H4 ws (es++[l]) hp0 s4 e4 hv ⟨hch,l,?_,hne⟩⟩;simp
   .rw[decide_eq_false (λz=>hne (zgB.mp z))];refine iteT ?_
    have hch2:=hch.more hne;have hsh:=hch2.short;have hl4:ws.length=(es++[l]).length:=by rw[hv.1,zcS]
    have hl5:ws.length+1<=4*cs.length:=by rw[hl4];rw[Af,BR]at hsh;exact hsh
    refine⟨_,rfl,_,rfl,t,re,isIn cs,nxt (isIn cs) l,rfl,tab.same s4,SqT.of er,hw4,λH5 s5=>?_⟩;refine⟨_,rfl,.inl ⟨rfl,_,SqL.of (s5 _ _ e4)⟩,_,rfl,_,rfl,two,λq5 hq5=>?_⟩;have e5:=s5 _ _ e4;have hp5:p≠q5:=zal e5 hq5;refine⟨p,ws,_,rfl,rfl,(by rw[zam hp5];exact e5),zay (by lia),?_⟩;have k5:KT H5 (upd (upd H5 q5 (.tup [.ref re,sv (stepB (isIn cs) (nxt (isIn cs) l))])) p (.lst (ws++[.ref q5]))):=(KT.up hq5).trans (KT.lst (xs:=ws) (by rw[zam hp5];exact e5));have e6:upd (upd H5 q5 (.tup [.ref re,sv (stepB (isIn cs) (nxt (isIn cs) l))])) p (.lst (ws++[.ref q5])) re=some (.tup (edgeT (nxt (isIn cs) l))):=k5 _ _ (s5 _ _ er);have s6:Same H (upd (upd H5 q5 (.tup [.ref re,sv (stepB (isIn cs) (nxt (isIn cs) l))])) p (.lst (ws++[.ref q5]))):=zar hp0 ((s4.trans s5).trans (Same.up hq5));refine⟨_,rfl,_,rfl,re,nxt (isIn cs) l,_,rfl,SqT.of e6,hw4,zhp hw4,λr7 H7 hr7 s7 f7=>?_⟩;have e7:=s7 _ _ zaa;refine⟨⟨ws++[.ref q5],es++[l],nxt (isIn cs) l,_,r7,rfl,s6.trans s7,e7,?_,hch2,f7⟩,?_⟩
    .rw[zk7];refine hv.snoc (λx v hx=>hx.kt ((KT.of s5).trans (k5.trans (KT.of s7)))) ⟨q5,re,rfl,s7 _ _ ?_,s7 _ _ e6⟩;rw[zam (B8 hp5),zaa]
    .show 4*cs.length+1-zju (H7 p)<4*cs.length+1-zju (H4 p);rw[e7,e4];show 4*cs.length+1-(ws++[V.ref q5]).length<4*cs.length+1-ws.length;rw[Af,BR];lia
  .rintro σ H4 Q1 Q2 hQ ⟨v,h1,v2,h2,dd,ee,r1,r2,x1,x2,kk,h3,q⟩;exact⟨v,h1,v2,h2,dd,ee,r1,r2,x1,x2,kk,h3,hQ _ _ q⟩
noncomputable abbrev Wk:=List (Edge×Option Nat)
noncomputable def nL(W:Wk):Nat:=(W.filter λq=>q.2.isNone).length
noncomputable def nS(W:Wk):Nat:=(W.filter λq=>slant q.2).length
theorem zkC(o:Option Nat):decide (sv o=V.non)=o.isNone:=by cases o <;> simp[sv]
theorem zcO{α:Type}{p:α->Bool}{l:List α}{i:Nat}{x:α}(h:l[i]?=some x):((l.take (i+1)).filter p)=(l.take i).filter p++(if p x=true then [x] else []):=by rw[zaC h,zcc]
theorem LR.vr{α:Type}{K:W.Frag}{H:Hp}{a:Addr}{l:List α}{R:α->V->Hp->Prop}(h:LR K H a l R):∃vs,SqL K H a vs/\VR vs l R H:=let ⟨vs,q,n,r⟩:=h;⟨vs,q,n,r⟩
theorem LR.of{α:Type}{K:W.Frag}{H:Hp}{a:Addr}{vs:List V}{l:List α}{R:α->V->Hp->Prop}(e:H a=some (.lst vs))(h:VR vs l R H):LR K H a l R:=⟨vs,SqL.of e,h.1,h.2⟩
noncomputable def ziJ(K:W.Frag):Sp:=λvs H Q _=>∃(a:Addr) (W:Wk),vs=[.ref a]/\LR K H a W wR/\W.length<=2000/\∀p H',H p=none->Same H H'->H' p=some (.tup [.int (nL W),.int (nS W)])->Q (.ref p) H'
theorem zcL (T:Txt P w K mg) (g_is_slant:Fn P w K mg base 1 "is_slant" ["step"] zcU) (d:Df K mg "lefts_and_slants" zaO ["walk"]):FnOk P w K mg base CX0 2 d.f d.fd ["walk"] (ziJ K):=by
 refine d.F.ok zbc (λvs H Q E h=>?_) (λcdv A outer s H vs Q E hr h=>?_)
 .obtain⟨a,W,rfl,_⟩:=h;rfl
 .obtain⟨a,W,rfl,hLR,hlen,k⟩:=h;obtain⟨ws,hq,hv⟩:=hLR.vr;have nb0:(["edge","step"]:List Str).Nodup:=by decide +kernel
  have nb1:(["edge","step"]:List Str).Nodup:=by decide +kernel
  refine⟨_,(zac (sE 1 zbc.nd (zaw zaK (by rfl) T.nlen (by rfl) (zag (za3 (osc:=zae zaO) (N:=zbk) (N':=["edge","step"]) (sel:=[none,none]) bO (zaS (pv 0)) (λ_ _ _ _ _=>(zcK (K:=K) (n:=2) (by rfl) (zah (nG 0 nb0) (zah (nG 1 nb0) zaG)))) (λ_ _ _ _ _=>zde (zao zge (pv 1) zbm (zan _))) (λ_ _ _ _ _=>(pv 1))) zad)))
   (zac (sE 2 zbc.nd (zaw zaK (by rfl) T.nlen (by rfl) (zag (za3 (osc:=zae zaO) (N:=zbk) (N':=["edge","step"]) (sel:=[none,none]) bO (zaS (pv 0)) (λ_ _ _ _ _=>(zcK (K:=K) (n:=2) (by rfl) (zah (nG 0 nb1) (zah (nG 1 nb1) zaG)))) (λ_ _ _ _ _=>zde (zco (pC g_is_slant hr (pa_N (pv 1) zad)))) (λ_ _ _ _ _=>(pv 1))) zad)))
   (zaf (zaj (zav (pa_N (pv 1) (pa_N (pv 2) zad))))))),?_⟩
  refine⟨_,rfl,a,rfl,⟨_,hq⟩,λp hp=>?_⟩
  refine zaH (K:=K) (a:=a) (xs:=ws) (λi σ H2=>∃o1 o2,σ=[o1,o2]/\Same H H2/\∃ss:List V,H2 p=some (.lst ss)/\ss.length=((W.take i).filter λq=>q.2.isNone).length)
   ⟨_,_,rfl,Same.up hp,[],zaa,rfl⟩ (λi σ H2 _ ⟨_,_,_,s2,_⟩=>s2.seq hq) ?_ ?_
  .rintro i v σ H2 hi ⟨o1,o2,rfl,s2,ss,e2,hl⟩;obtain⟨⟨e,st⟩,he,B,b,rfl,q1,q2⟩:=hv.at hi
   have hl2:ss.length<=2000:=by have:=Cz (λq:Edge×Option Nat=>q.2.isNone) (W.take i);rw[AX]at this;lia
   refine⟨B,_,rfl,SqT.of (s2 _ _ q1),rfl,_,_,rfl,_,_,rfl,rfl,?_⟩;refine⟨_,rfl,rfl,_,rfl,?_⟩;rw[zkC];rw[zcO he]at *;refine ite2 (λhy=>?_) (λhn=>?_)
   .refine⟨_,rfl,ss,e2,(Bt hl2 (by decide)),_,_,rfl,zar hp s2,_,zaa,?_⟩;rw[if_pos hy,Af,Af,hl];rfl
   .exact⟨_,_,rfl,s2,ss,e2,by rw[if_neg hn,AH];exact hl⟩
  .rintro σ H2 ⟨o1,o2,rfl,s2,ss,e2,hl⟩;refine⟨p,_,rfl,.inl (SqL.of e2),?_⟩;refine⟨_,rfl,a,rfl,⟨_,s2.seq hq⟩,λp2 hp2=>?_⟩
   refine zaH (K:=K) (a:=a) (xs:=ws) (λi σ H3=>∃o1 o2,σ=[o1,o2]/\Same H2 H3/\∃s3:List V,H3 p2=some (.lst s3)/\s3.length=((W.take i).filter λq=>slant q.2).length)
    ⟨_,_,rfl,Same.up hp2,[],zaa,rfl⟩ (λi σ H3 _ ⟨_,_,_,s3,_⟩=>(s2.trans s3).seq hq) ?_ ?_
   .rintro i v σ H3 hi ⟨o1,o2,rfl,s3,ss3,e3,hl3⟩;obtain⟨⟨e,st⟩,he,B,b,rfl,q1,q2⟩:=hv.at hi
    have hl2:ss3.length<=2000:=by have:=Cz (λq:Edge×Option Nat=>slant q.2) (W.take i);rw[AX]at this;lia
    refine⟨B,_,rfl,SqT.of ((s2.trans s3) _ _ q1),rfl,_,_,rfl,_,_,rfl,rfl,?_⟩;refine⟨_,rfl,st,rfl,_,rfl,?_⟩;rw[zcO he]at *;refine ite2 (λhy=>?_) (λhn=>?_)
    .refine⟨_,rfl,ss3,e3,(Bt hl2 (by decide)),_,_,rfl,zar hp2 s3,_,zaa,?_⟩;rw[if_pos hy,Af,Af,hl3];rfl
    .exact⟨_,_,rfl,s3,ss3,e3,by rw[if_neg hn,AH];exact hl3⟩
   .rintro σ H3 ⟨o1,o2,rfl,s3,ss3,e3,hl3⟩;refine⟨p2,_,rfl,.inl (SqL.of e3),?_⟩;refine⟨_,rfl,_,rfl,two,λp4 hp4=>k p4 _ (s2.free (s3.free hp4)) ((s2.trans s3).trans (Same.up hp4)) ?_⟩;rw[hv.1,AL]at hl hl3;rw[zaa,hl,hl3];rfl
noncomputable def ziI(K:W.Frag):Sp:=λvs H Q _=>∃(a:Addr) (W:Wk),vs=[.ref a]/\LR K H a W wR/\W.length<=2000/\∀H',Same H H'->Q (.int ((nL W:Int)-nS W)) H'
theorem zcz (g_lefts_and_slants:Fn P w K mg base 2 "lefts_and_slants" ["walk"] (ziJ K)) (d:Df K mg "lefts_less_slants" zbd ["walk"]):FnOk P w K mg base CX0 3 d.f d.fd ["walk"] (ziI K):=by
 refine d.F.ok za7 (λvs H Q E h=>?_) (λcdv A outer s H vs Q E hr h=>?_)
 .obtain⟨a,W,rfl,_⟩:=h;rfl
 .obtain⟨a,W,rfl,hLR,hlen,k⟩:=h
  refine⟨_,(zac (zbw (pC g_lefts_and_slants hr (pa_N (pv 0) zad)) (zbl (by rfl) (zah (nG 1 za7.nd) (zah (nG 2 za7.nd) zaG))))
   (zaf (zaj (pe_op zbi (pv 1) (pv 2))))),?_⟩
  refine⟨_,rfl,a,W,rfl,hLR,hlen,λp H1 hp s1 f1=>?_⟩;refine⟨p,_,rfl,SqT.of f1,rfl,_,_,rfl,_,_,rfl,rfl,?_⟩;exact⟨_,rfl,_,rfl,_,_,rfl,rfl,k H1 s1⟩
noncomputable def sortS (W:Wk):Str:=if nS W<nL W then "rim" else "hole"
noncomputable def zkF(K:W.Frag):Sp:=λvs H Q _=>∃(a:Addr) (W:Wk),vs=[.ref a]/\LR K H a W wR/\W.length<=2000/\∀H',Same H H'->Q (.str (sortS W)) H'
theorem zig (g_lefts_less_slants:Fn P w K mg base 3 "lefts_less_slants" ["walk"] (ziI K)) (d:Df K mg "sort_of" zdS ["walk"]):FnOk P w K mg base CX0 4 d.f d.fd ["walk"] (zkF K):=by
 refine d.F.ok zib (λvs H Q E h=>?_) (λcdv A outer s H vs Q E hr h=>?_)
 .obtain⟨a,W,rfl,_⟩:=h;rfl
 .obtain⟨a,W,rfl,hLR,hlen,k⟩:=h;refine⟨_,(zaf (zaj (zfh (zao op_gt (pC g_lefts_less_slants hr (pa_N (pv 0) zad)) zab (zan _)) zdo zdo))),?_⟩;refine⟨_,rfl,a,W,rfl,hLR,hlen,λH1 s1=>?_⟩;refine⟨_,_,rfl,rfl,_,rfl,?_⟩;have h1:=k H1 s1;unfold sortS at h1
  by_cases hlt:nS W<nL W
  .rw[if_pos hlt]at h1;exact iteY (decide_eq_true (by lia)) h1
  .rw[if_neg hlt]at h1;exact iteN (decide_eq_false (by lia)) h1
noncomputable def kOf (s:Str):Nat:=if s = "rim" then 0 else 2
noncomputable def zep(W:Wk)(s:Str)(e:Edge):Prop:=e∈W.map (·.1)/\e.w=kOf s/\∀f∈W.map (·.1),f.w=kOf s->HT.lexLt [f.c.2,f.c.1] [e.c.2,e.c.1]=false
noncomputable def ziN (K:W.Frag):Sp:=λvs H Q _=>∃(a:Addr) (W:Wk) (s:Str),vs=[.ref a,.str s]/\(s = "rim" ∨ s = "hole")/\LR K H a W wR/\W.length<=2000/\(∃e∈W.map (·.1),e.w=kOf s) /\
 ∀b e H',Same H H'->H' b=some (.tup (edgeT e))->zep W s e->Q (.ref b) H'
theorem zg5 (T:Txt P w K mg) (g_cell_order:Fn P w K mg base 1 "cell_order" ["cell"] (zgT K)) (d:Df K mg "begin_of" zcu ["walk","sort"]):FnOk P w K mg base CX0 3 d.f d.fd ["walk","sort"] (ziN K):=by
  refine d.F.ok zgY (λvs H Q E h=>?_) (λcdv A outer s H vs Q E hr h=>?_)
  . obtain⟨a,W,s,rfl,_⟩:=h;rfl
  . obtain⟨a,W,so,rfl,hso,hLR,hlen,hex,k⟩:=h;obtain⟨ws,hq,hv⟩:=hLR.vr;have nb0:(["edge","step","sort"]:List Str).Nodup:=by decide +kernel
    refine⟨_,(zaf (zaj (zlo g_cell_order.ok (hr.mono (by decide)) g_cell_order.b (by rfl) T.nmin (by rfl) g_cell_order.m (za3 (osc:=zae zcu) (N:=ze0) (N':=["edge","step","sort"]) (sel:=[none,none,some 1]) bO (zaS (pv 0)) (λ_ _ _ _ _=>(zcK (K:=K) (n:=2) (by rfl) (zah (nG 0 nb0) (zah (nG 1 nb0) zaG)))) (λ_ _ _ _ _=>zde (zao op_eq (pe_ix (zhb (K:=K)) (pv 0) zab (λ_ _=>rfl)) (zln (by rfl) T.ways (pv 2)) (zan _))) (λ_ _ _ _ _=>(pv 0)))))),?_⟩;refine⟨_,rfl,a,rfl,⟨_,hq⟩,λp hp=>?_⟩
    refine zaH (K:=K) (a:=a) (xs:=ws) (λi σ H2=>∃o1 o2,σ=[o1,o2,some (.str so)]/\Same H H2/\∃es:List V,H2 p=some (.lst es)/\VR es (((W.take i).filter λq=>q.1.w == kOf so).map (·.1)) eR H2)
      ⟨_,_,rfl,Same.up hp,[],zaa,VR.nil⟩ (λi σ H2 _ ⟨_,_,_,s2,_⟩=>s2.seq hq) ?_ ?_
    . rintro i v σ H2 hi ⟨o1,o2,rfl,s2,es,e2,hl⟩;obtain⟨⟨e,st⟩,he,B,b,rfl,q1,q2⟩:=hv.at hi
      have hl2:es.length<=2000:=by have:=Cz (λq:Edge×Option Nat=>q.1.w == kOf so) (W.take i);rw[hl.1,Am];rw[AX]at this;lia
      have fin:∀kk:Int, kk=(kOf so:Int) -> (if decide (V.int (e.w:Int)=V.int kk)=true then zcf p (tVar 0) { nx := λσ H2 => ∃o1 o2, σ = [o1, o2, some (V.str so)] /\ Same H H2 /\ ∃es, H2 p=some (.lst es) /\ VR es (List.map (λx => x.fst) (List.filter (λq => q.1.w == kOf so) (List.take (i + 1) W))) eR H2, rt := λ_ _ => False } [some (.ref b), some (sv st), some (.str so)] H2
          else (∃o1 o2,[some (.ref b),some (sv st),some (V.str so)]=[o1,o2,some (V.str so)]/\Same H H2/\∃es,H2 p=some (.lst es)/\VR es (List.map (λx=>x.fst) (List.filter (λq=>q.1.w == kOf so) (List.take (i+1) W))) eR H2)):=λkk hk=>by
        have hd:decide (V.int (e.w:Int)=V.int kk)=(e.w == kOf so):=by
          subst hk
          by_cases q:e.w=kOf so
          . rw[q];simp
          . rw[decide_eq_false (λz=>q (by injection z with z;lia))];simp[q]
        rw[hd,zcO he];refine ite2 (λhy=>?_) (λhn=>?_)
        . refine⟨_,rfl,es,e2,(Bt hl2 (by decide)),_,_,rfl,zar hp s2,_,zaa,?_⟩;rw[if_pos hy,Bc];have k2:KT H2 (upd H2 p (.lst (es++[.ref b]))):=KT.lst e2;exact hl.snoc (λx v hx=>hx.kt k2) ⟨b,rfl,k2 _ _ (s2 _ _ q2)⟩
        . exact⟨_,_,rfl,s2,es,e2,by rw[if_neg hn,AH];exact hl⟩
      refine⟨B,_,rfl,SqT.of (s2 _ _ q1),rfl,_,_,rfl,_,_,rfl,rfl,?_⟩;rcases hso with z |z
      . have f0:=fin 0 (by rw[z];rfl);exact⟨_,rfl,b,_,_,_,rfl,rfl,SqT.of (s2 _ _ q2),zai (j:=2) rfl,_,rfl,.inl ⟨by rw[z],rfl,_,rfl,f0⟩⟩
      . have f2:=fin 2 (by rw[z];rfl);exact⟨_,rfl,b,_,_,_,rfl,rfl,SqT.of (s2 _ _ q2),zai (j:=2) rfl,_,rfl,.inr ⟨by rw[z],rfl,_,rfl,f2⟩⟩
    . rintro σ H2 ⟨o1,o2,rfl,s2,es,e2,hl⟩;rw[hv.1,AL]at hl;obtain⟨L,hL⟩:∃L,L=((W.filter λq=>q.1.w == kOf so).map (·.1)):=⟨_,rfl⟩;rw[<- hL]at hl
      have memL:∀f,f∈L ↔ f∈W.map (·.1)/\f.w=kOf so:=λf=>by
        rw[hL];constructor
        . intro h;obtain⟨q,hq1,rfl⟩:=Bp.mp h;obtain⟨h1,h2⟩:=List.mem_filter.mp hq1;exact⟨Bp.mpr ⟨q,h1,rfl⟩,by simpa using h2⟩
        . rintro⟨h1,h2⟩;obtain⟨q,hq1,rfl⟩:=Bp.mp h1;exact Bp.mpr ⟨q,List.mem_filter.mpr ⟨hq1,by simpa using h2⟩,rfl⟩
      have hpos:0<es.length:=by obtain⟨f,h1,h2⟩:=hex;rw[hl.1];exact List.length_pos_of_mem ((memL f).mpr ⟨h1,h2⟩)
      have kap:∀(i:Nat) e,L[i]?=some e->(λi=>(L[i]?.map λe:Edge=>[e.c.2,e.c.1]).getD []) i=[e.c.2,e.c.1]:=λi e h=>by simp only[h];rfl
      refine⟨p,es,λi=>(L[i]?.map λe:Edge=>[e.c.2,e.c.1]).getD [],rfl,SqL.of e2,hpos,λi x H3 hx s3=>?_,λi x H3 hx hle s3=>?_⟩
      . obtain⟨e,he,b,rfl,q⟩:=hl.at hx;refine⟨b,e.c.1,e.c.2,_,rfl,SqT.of (s3 _ _ q),λp4 H4 hp4 s4 f4=>⟨s4,p4,rfl,SqT.of ?_⟩⟩;rw[kap i e he];exact f4
      . obtain⟨e,he,b,rfl,q⟩:=hl.at hx;have hm:=(memL e).mp (As he);refine k b e H3 (s2.trans s3) (s3 _ _ q) ⟨hm.1,hm.2,λf h1 h2=>?_⟩;obtain⟨j,hj,ej⟩:=AR ((memL f).mpr ⟨h1,h2⟩);have hj':L[j]?=some f:=by rw[Aa hj,ej]
        have:=(hle j (by rw[hl.1];exact hj)).1;rw[kap j f hj',kap i e he]at this;exact this
theorem ziU(n d j:Nat):HT.sIx n d (some (j:Int))=min j n:=by show (if (j:Int)<0 then ((j:Int)+(n:Int)).toNat else min (j:Int).toNat n)=min j n;rw[if_neg (by lia),CJ]
theorem zhW(xs:List V){j:Nat}(h:j<=xs.length):cutV xs (some (j:Int)) none=xs.drop j:=by unfold cutV;rw[ziU,C6 h];exact Ba (by rw[Bh];exact Ai _)
theorem zk2(xs:List V){j:Nat}(h:j<=xs.length):cutV xs none (some (j:Int))=xs.take j:=by unfold cutV;rw[ziU,C6 h];rfl
theorem VR.rot{α:Type}{vs:List V}{l:List α}{R:α->V->Hp->Prop}{H:Hp}(h:VR vs l R H)(j:Nat):VR (vs.drop j++vs.take j) (l.drop j++l.take j) R H:=by
 refine⟨by simp[h.1],λi x v h1 h2=>?_⟩;have hd:(vs.drop j).length=(l.drop j).length:=by simp[h.1]
 rcases A8 i (l.drop j).length with hi |hi
 .rw[Ar hi,C0]at h1;rw[Ar (by lia),C0]at h2;exact h.2 _ x v h1 h2
 .rw[AJ hi]at h1;rw[AJ (by lia),hd]at h2;rw[List.getElem?_take]at h1 h2;split at h1
  .rw[if_pos (by assumption)]at h2;exact h.2 _ x v h1 h2
  .cases h1
theorem zhR{α:Type} [DecidableEq α]{x:α}:∀{l:List α},x∈l->∃j:Nat,l[j]?=some x/\∀(m:Nat) y,m<j->l[m]?=some y->y≠x
 |[],h=>by cases h
 |a::l,h=>by
  by_cases e:a=x
  .exact⟨0,by rw[e];rfl,λm y hm=>absurd hm (Nat.not_lt_zero _)⟩
  .obtain⟨j,h1,h2⟩:=zhR ((Av.mp h).resolve_left (B8 e));refine⟨j+1,by simpa using h1,λm y hm hy=>?_⟩
   match m,hm,hy with
   | 0,_,hy=>cases hy;exact e
   |m+1,hm,hy=>exact h2 m y (by lia) (by simpa using hy)
theorem zf8{K:W.Frag}{H:Hp}:∀{vs:List V}{l:List Edge},VR vs l eR H->RDs K H vs (l.map λe=>tI (eI e))
 |[],[],_=>.nil
 |[],_::_,h=>by have:=h.1;cases this
 |_::_,[],h=>by have:=h.1;cases this
 |v::vs,e::l,h=>by
  obtain⟨b,rfl,q⟩:=h.2 0 e v rfl rfl;exact .cons (zdc q) (zf8 ⟨by simpa using h.1,λi x u h1 h2=>h.2 (i+1) x u (by simpa using h1) (by simpa using h2)⟩)
structure Rnd where
 so:Str
 x:Int
 y:Int
 row:List Nat
 deriving DecidableEq
noncomputable def rowV(row:List Nat):List V:=row.map λn:Nat=>V.int (n:Int)
noncomputable def rR(r:Rnd)(v:V)(H:Hp):Prop:=∃a b,v=.ref a/\H a=some (.tup [.str r.so,.int r.x,.int r.y,.ref b])/\H b=some (.tup (rowV r.row))
theorem rR.kt{r:Rnd}{v:V}{H H':Hp}(h:rR r v H)(s:KT H H'):rR r v H':=let ⟨a,b,e,q1,q2⟩:=h;⟨a,b,e,s _ _ q1,s _ _ q2⟩
noncomputable def IsRnd(W:Wk)(r:Rnd):Prop:=r.so=sortS W/\∃(j:Nat) (e:Edge),(W.map (·.1))[j]?=some e/\zep W (sortS W) e/\r.x=e.c.1/\r.y=e.c.2/\r.row=(W.drop j++W.take j).filterMap (·.2)
theorem ze7 (W:Wk):sortS W = "rim" ∨ sortS W = "hole":=by unfold sortS;split <;> simp
noncomputable def zdK(K:W.Frag):Sp:=λvs H Q _=>∃(a:Addr) (W:Wk),vs=[.ref a]/\LR K H a W wR/\W.length<=2000/\(∃e∈W.map (·.1),e.w=0)/\(∃e∈W.map (·.1),e.w=2) /\
 ∀v H' r,Same H H'->rR r v H'->IsRnd W r->Q v H'
theorem zg1 (T:Txt P w K mg) (g_sort_of:Fn P w K mg base 4 "sort_of" ["walk"] (zkF K)) (g_begin_of:Fn P w K mg base 3 "begin_of" ["walk", "sort"] (ziN K))
  (d:Df K mg "round_of" zbB ["walk"]):FnOk P w K mg base CX0 5 d.f d.fd ["walk"] (zdK K):=by
 refine d.F.ok zbD (λvs H Q E h=>?_) (λcdv A outer s H vs Q E hr h=>?_)
 .obtain⟨a,W,rfl,_⟩:=h;rfl
 .obtain⟨a,W,rfl,hLR,hlen,h0,h2,k⟩:=h;obtain⟨ws,hq,hv⟩:=hLR.vr;have hun:=hr.un;have hu65:(A.deeper (PyProof.Rows.envOfC (BW "round_of") (zae zbB) s.heap.objs.size d.f cdv)).units+65<cLine:=by lia
  have nb0:(["edge","step"]:List Str).Nodup:=by decide +kernel
  have nb1:(["edge","step"]:List Str).Nodup:=by decide +kernel
  refine⟨_,(zac (sE 1 zbD.nd (pC g_sort_of hr (pa_N (pv 0) zad)))
   (zac (sE 2 zbD.nd (pC g_begin_of hr (pa_N (pv 0) (pa_N (pv 1) zad))))
   (zac (sE 3 zbD.nd (pe_bm AT PySem.F.slot_list_index PySem.F.type_list_index (zjr hu65) (za3 (osc:=zae zbB) (N:=zdl) (N':=["edge","step"]) (sel:=[none,none]) bO (zaS (pv 0)) (λ_ _ _ _ _=>(zcK (K:=K) (n:=2) (by rfl) (zah (nG 0 nb0) (zah (nG 1 nb0) zaG)))) (λ_ _ _ _ _=>zbq) (λ_ _ _ _ _=>(pv 0))) (pa_N (pv 2) zad)))
   (zac (sE 4 zbD.nd (zbJ zcd (by rfl) T.ntuple (by rfl) (zag (za3 (osc:=zae zbB) (N:=zdl) (N':=["edge","step"]) (sel:=[none,none]) bO (zaS (pe_op zkP (zcv ziP (pv 0) (zcJ (pv 3)) zdW) (zcv ziP (pv 0) zdW (zcJ (pv 3))))) (λ_ _ _ _ _=>(zcK (K:=K) (n:=2) (by rfl) (zah (nG 0 nb1) (zah (nG 1 nb1) zaG)))) (λ_ _ _ _ _=>zde (zao zdf (pv 1) zbm (zan _))) (λ_ _ _ _ _=>(pv 1))) zad)))
   (zaf (zaj (zav (pa_N (pv 1) (zag (pe_ix zat (pv 2) zab (λ_ _=>rfl)) (zag (pe_ix zat (pv 2) zab (λ_ _=>rfl)) (pa_N (pv 4) zad))))))))))),?_⟩
  refine⟨_,rfl,a,W,rfl,hLR,hlen,λH1 s1=>?_⟩
  have hex:∃e∈W.map (·.1),e.w=kOf (sortS W):=by
   rcases ze7 W with z |z <;> rw[z]
   .exact h0
   .exact h2
  refine⟨_,rfl,_,rfl,a,W,sortS W,rfl,ze7 W,hLR.same s1 (λx v hx=>hx.same s1),hlen,hex,λb e H2 s2 hb hbg=>?_⟩;have s12:=s1.trans s2;refine⟨_,rfl,a,rfl,⟨_,s12.seq hq⟩,λp hp=>?_⟩
  refine zaH (K:=K) (a:=a) (xs:=ws) (λi σ H3=>∃o1 o2,σ=[o1,o2]/\Same H2 H3/\∃es:List V,H3 p=some (.lst es)/\VR es ((W.take i).map (·.1)) eR H3)
   ⟨_,_,rfl,Same.up hp,[],zaa,VR.nil⟩ (λi σ H3 _ ⟨_,_,_,s3,_⟩=>(s12.trans s3).seq hq) ?_ ?_
  .rintro i v σ H3 hi ⟨o1,o2,rfl,s3,es,e3,hl⟩;obtain⟨⟨f,st⟩,he,B,bb,rfl,q1,q2⟩:=hv.at hi;have hl2:es.length<=2000:=by rw[hl.1,Am,AX];lia
   refine⟨B,_,rfl,SqT.of ((s12.trans s3) _ _ q1),rfl,_,_,rfl,_,_,rfl,rfl,?_⟩;refine ze3 ?_
   refine⟨_,rfl,es,e3,(Bt hl2 (by decide)),_,_,rfl,zar hp s3,_,zaa,?_⟩;rw[zaC he,Bc];have k2:KT H3 (upd H3 p (.lst (es++[.ref bb]))):=KT.lst e3;exact hl.snoc (λx v hx=>hx.kt k2) ⟨bb,rfl,k2 _ _ ((s12.trans s3) _ _ q2)⟩
  .rintro σ H3 ⟨o1,o2,rfl,s3,es,e3,hl⟩;rw[hv.1,AL]at hl;obtain⟨j,hj,hjm⟩:=zhR hbg.1;have hjl:j<W.length:=by have:=(Ac.mp hj).1;simpa using this
   have s13:=s12.trans s3;refine⟨.inl ⟨rfl,_,SqL.of e3⟩,_,rfl,p,es,_,_,_,j,_,rfl,rfl,SqL.of e3,zdc (s3 _ _ hb),zf8 hl,zaD _,(λz hz=>by obtain⟨f,_,rfl⟩:=Bp.mp hz;exact zaD _),(by rw[AI,hj];rfl),(by rw[zcC];exact decide_eq_true rfl),(λm z hm hz=>?_),?_⟩
   .rw[AI]at hz;obtain⟨f,hf,rfl⟩:=BX.mp hz;rw[zcC];exact decide_eq_false (λq=>hjm m f hm hf (zgB.mp q))
   have hwl:j<=ws.length:=by rw[hv.1];lia
   refine⟨_,rfl,_,rfl,_,rfl,a,ws,rfl,s13.seq hq,λp4 hp4=>?_⟩;rw[zhW ws hwl];have s4:=Same.up (o:=.lst (ws.drop j)) hp4;refine⟨_,rfl,_,rfl,_,rfl,a,ws,rfl,(s13.trans s4).seq hq,λp5 hp5=>?_⟩;rw[zk2 ws hwl];have s5:=Same.up (o:=.lst (ws.take j)) hp5;refine⟨p4,p5,_,_,rfl,rfl,s5 _ _ zaa,zaa,A7 (Bt (show _<=2000 by simp[hv.1];lia) (by decide)),λp6 hp6=>?_⟩;have s6:=Same.up (o:=.lst (ws.drop j++ws.take j)) hp6;have s16:=s13.trans (s4.trans (s5.trans s6));have e6:upd (upd (upd H3 p4 (.lst (ws.drop j))) p5 (.lst (ws.take j))) p6 (.lst (ws.drop j++ws.take j)) p6=some (.lst (ws.drop j++ws.take j)):=zaa;have b6:=(s4.trans (s5.trans s6)) _ _ (s3 _ _ hb);generalize upd (upd (upd H3 p4 (.lst (ws.drop j))) p5 (.lst (ws.take j))) p6 (.lst (ws.drop j++ws.take j))=H6 at s16 e6 b6 ⊢;have hv6:=hv.rot j;have hWl:(W.drop j++W.take j).length<=2000:=by simp;lia
   generalize hW6:W.drop j++W.take j=W6 at hv6 hWl;generalize ws.drop j++ws.take j=ws6 at hv6 e6;refine⟨p6,rfl,⟨_,SqL.of e6⟩,λp7 hp7=>?_⟩
   refine zaH (K:=K) (a:=p6) (xs:=ws6) (λi σ H7=>∃o1 o2,σ=[o1,o2]/\Same H6 H7/\H7 p7=some (.lst (rowV ((W6.take i).filterMap (·.2)))))
    ⟨_,_,rfl,Same.up hp7,zaa⟩ (λi σ H7 _ ⟨_,_,_,s7,_⟩=>s7.seq (SqL.of e6)) ?_ ?_
   .rintro i v σ H7 hi ⟨o1,o2,rfl,s7,e7⟩;obtain⟨⟨f,st⟩,he,B,bb,rfl,q1,q2⟩:=hv6.at hi
    have hl2:(rowV ((W6.take i).filterMap (·.2))).length<=2000:=by unfold rowV;rw[Am];have:=List.length_filterMap_le (λq:Edge×Option Nat=>q.2) (W6.take i);rw[AX]at this;lia
    refine⟨B,_,rfl,SqT.of ((s16.trans s7) _ _ q1),rfl,_,_,rfl,_,_,rfl,rfl,?_⟩;refine⟨_,rfl,rfl,_,rfl,?_⟩;rw[zkC,zaC he,BS]
    cases st with
    |none=>exact iteF ⟨_,_,rfl,s7,by simpa using e7⟩
    |some n =>
     refine iteT ⟨_,rfl,_,e7,(Bt hl2 (by decide)),_,_,rfl,zar hp7 s7,?_⟩;rw[zaa];simp[rowV,sv]
   .rintro σ H7 ⟨o1,o2,rfl,s7,e7⟩;rw[hv6.1,AL]at e7;refine⟨p7,_,rfl,.inl ⟨SqL.of e7,λp8 hp8=>?_⟩⟩;have s8:=Same.up (o:=.tup (rowV (W6.filterMap (·.2)))) hp8;have b8:=s8 _ _ (s7 _ _ b6);refine⟨_,rfl,_,rfl,b,_,_,_,rfl,rfl,SqT.of b8,zai (j:=0) rfl,_,rfl,b,_,_,_,rfl,rfl,SqT.of b8,zai (j:=1) rfl,_,rfl,(by show 4<=sizeLine;decide),λp9 hp9=>?_⟩;refine k _ _ ⟨sortS W,e.c.1,e.c.2,W6.filterMap (·.2)⟩ ((s16.trans (s7.trans s8)).trans (Same.up hp9)) ⟨p9,p8,rfl,zaa,Same.up hp9 _ _ zaa⟩ ⟨rfl,j,e,hj,hbg,rfl,rfl,?_⟩;rw[<- hW6]
noncomputable def keyV (r:Rnd):List V:=[.int r.y,.int r.x,.bl (decide (V.str r.so=V.str "hole"))]
noncomputable def zdm(K:W.Frag):Sp:=λvs H Q _=>∃(v:V) (r:Rnd),vs=[v]/\rR r v H/\∀p H',H p=none->Same H H'->H' p=some (.tup (keyV r))->Q (.ref p) H'
theorem zet (d:Df K mg "round_order" zb4 ["one"]):FnOk P w K mg base CX0 1 d.f d.fd ["one"] (zdm K):=by
 refine d.F.ok zbb (λvs H Q E h=>?_) (λcdv A outer s H vs Q E hr h=>?_)
 .obtain⟨v,r,rfl,_⟩:=h;rfl
 .obtain⟨v,r,rfl,⟨a,b,rfl,q1,q2⟩,k⟩:=h
  refine⟨_,(zac (zbw (pv 0) (zbl (by rfl) (zah (nG 1 zbb.nd) (zah (nG 2 zbb.nd) (zah (nG 3 zbb.nd) (zah (nG 4 zbb.nd) zaG))))))
   (zaf (zaj (zav (pa_N (pv 3) (pa_N (pv 2) (zag (zaT op_eq (pv 1) zdo (zan _)) zad))))))),?_⟩
  refine⟨_,rfl,a,_,rfl,SqT.of q1,rfl,_,_,rfl,_,_,rfl,_,_,rfl,_,_,rfl,rfl,?_⟩;refine⟨_,rfl,_,rfl,_,rfl,rfl,three,λp hp=>k p _ hp (Same.up hp) zaa⟩
theorem VR.cons{α:Type}{v:V}{vs:List V}{x:α}{l:List α}{R:α->V->Hp->Prop}{H:Hp}:VR (v::vs) (x::l) R H ↔ R x v H/\VR vs l R H:=by
 constructor
 .intro h;exact⟨h.2 0 x v rfl rfl,by simpa using h.1,λi y u h1 h2=>h.2 (i+1) y u (by simpa using h1) (by simpa using h2)⟩
 .rintro⟨h1,h2⟩;refine⟨by simp[h2.1],λi y u e1 e2=>?_⟩
  match i,e1,e2 with
  | 0,e1,e2=>cases e1;cases e2;exact h1
  |i+1,e1,e2=>exact h2.2 i y u (by simpa using e1) (by simpa using e2)
noncomputable def kE(e:Edge):List Key:=[Dj e.c.1,Dj e.c.2,Dj (e.w:Int)]
theorem zkW{e f:Edge}:kE e=kE f ↔ e=f:=by
 constructor
 .intro h;refine zgB.mp ?_
  unfold kE at h;injection h with h1 h2;injection h2 with h2 h3;injection h3 with h3 _;unfold eI;rw[Sum.inl.inj h1,Sum.inl.inj h2,Sum.inl.inj h3]
 .rintro rfl;rfl
theorem _root_.RP.Closed.back{C:Cell->Bool}{b x:Edge}{es:List Edge}(h:Closed C b es)(hx:IsE C x)(hm:nxt C x∈es):x∈es:=by
 obtain⟨⟨h0,hs,hE,hnd⟩,l,hl,hb⟩:=h;obtain⟨i,hi,ei⟩:=AR hm;have hlm:l∈es:=As hl;rcases BF i with rfl |hp
 .rw[Aa hi,ei]at h0;have e:=AW h0;rw[<- hb]at e;rw[zg6 hx (hE l hlm) e];exact hlm
 .have hi':i-1<es.length:=by lia
  have e1:=hs (i-1) es[i-1] (nxt C x) (Aa hi') (by rw[show i-1+1=i by lia,Aa hi,ei]);rw[zg6 hx (hE _ (A3 hi')) e1];exact A3 hi'
theorem _root_.RP.Closed.apart{C:Cell->Bool}{b:Edge}{es done:List Edge}(h:Closed C b es)(hd:∀x,IsE C x->nxt C x∈done->x∈done)(hb:b ∉ done):∀e∈es,e ∉ done:=by
 obtain⟨⟨h0,hs,hE,hnd⟩,_⟩:=h
 have key:∀(i:Nat) e,es[i]?=some e->e ∉ done:=by
  intro i
  induction i with
  |zero=>intro e he;rw[he]at h0;cases h0;exact hb
  |succ i ih =>
   intro e he hm;have hi:i+1<es.length:=(Ac.mp he).1;have h1:es[i]?=some es[i]:=Aa (by lia)
   have hn:=hs i _ e h1 he;rw[hn]at hm;exact ih _ h1 (hd _ (hE _ (A3 _)) hm)
 intro e he;obtain⟨i,hi,ei⟩:=AR he;exact key i e (by rw[Aa hi,ei])
structure Part (C:Cell->Bool) (ESS:List (List Edge)) (R:List Rnd):Prop where
 len:R.length=ESS.length
 each:∀(i:Nat) es r,ESS[i]?=some es->R[i]?=some r->(∃b,Closed C b es)/\IsRnd (wk C es) r
 nd:ESS.flatten.Nodup
theorem Part.closed{C:Cell->Bool}{ESS:List (List Edge)}{R:List Rnd}(h:Part C ESS R):∀es∈ESS,∃b,Closed C b es:=λes he=>by
 obtain⟨i,hi,ei⟩:=AR he;have hr:i<R.length:=by rw[h.len];exact hi
 exact (h.each i es R[i] (by rw[Aa hi,ei]) (Aa hr)).1
theorem Part.isE{C:Cell->Bool}{ESS:List (List Edge)}{R:List Rnd}(h:Part C ESS R):∀e∈ESS.flatten,IsE C e:=λe he=>by obtain⟨es,h1,h2⟩:=List.mem_flatten.mp he;obtain⟨b,hc⟩:=h.closed es h1;exact hc.1.2.2.1 e h2
theorem Part.back{C:Cell->Bool}{ESS:List (List Edge)}{R:List Rnd}(h:Part C ESS R):∀x,IsE C x->nxt C x∈ESS.flatten->x∈ESS.flatten:=λx hx hm=>by obtain⟨es,h1,h2⟩:=List.mem_flatten.mp hm;obtain⟨b,hc⟩:=h.closed es h1;exact List.mem_flatten.mpr ⟨es,h1,hc.back hx h2⟩
theorem Part.nil{C:Cell->Bool}:Part C [] []:=⟨rfl,λi es r h=>by simp at h,by simp⟩
theorem Part.snoc{C:Cell->Bool}{ESS:List (List Edge)}{R:List Rnd}{b:Edge}{es:List Edge}{r:Rnd}(h:Part C ESS R)(hc:Closed C b es)(hr:IsRnd (wk C es) r)(hb:b ∉ ESS.flatten):Part C (ESS++[es]) (R++[r]):=by
 refine⟨by simp[h.len],λi fs q h1 h2=>?_,?_⟩
 .rcases A8 i ESS.length with hi |hi
  .rw[Ar hi]at h1;rw[Ar (by rw[h.len];exact hi)]at h2;exact h.each i fs q h1 h2
  .rw[AJ hi]at h1;rw[AJ (by rw[h.len];exact hi)]at h2
   have hz:i-ESS.length=0:=by have:=(Ac.mp h1).1;simp at this;lia
   rw[hz]at h1;rw[h.len,hz]at h2
   cases h1;cases h2
   exact⟨⟨b,hc⟩,hr⟩
 .have ap:=hc.apart h.back hb;rw[Dm,Dc];refine⟨h.nd,by simpa using hc.1.2.2.2,λx hx y hy e=>?_⟩;subst e;exact ap x (by simpa using hy) hx
theorem zhL{p:Edge->Bool}:∀(ESS:List (List Edge)),(∀es∈ESS,∃e∈es,p e=true)->ESS.length<=(ESS.flatten.filter p).length
 |[],_=>Be _
 |es::r,h=>by
  have ih:=zhL r λes he=>h es (Az _ he)
  obtain⟨e,he,hp⟩:=h es AE;rw[Ch,C1,Af,AS];have:0<(es.filter p).length:=List.length_pos_of_mem (List.mem_filter.mpr ⟨he,hp⟩);lia
theorem Part.few{cs:List Cell}{ESS:List (List Edge)}{R:List Rnd}(h:Part (isIn cs) ESS R):R.length<=cs.length:=by
 rw[h.len];refine Bf (zhL (p:=λe=>e.w == 0) ESS λes he=>?_) ?_
 .obtain⟨b,hc⟩:=h.closed es he;obtain⟨e,h1,h2⟩:=hc.has (k:=0) (.inl rfl);exact⟨e,h1,by simpa using h2⟩
 .rw[<- Am (f:=λc:Cell=>(⟨c,0⟩:Edge)) (as:=cs)];refine za4 (List.Pairwise.filter _ h.nd) λe he=>?_
  obtain⟨h1,h2⟩:=List.mem_filter.mp he;have hE:=h.isE e h1;refine Bp.mpr ⟨e.c,of_decide_eq_true hE.2.1,?_⟩;obtain⟨c,w⟩:=e;simp only at h2 ⊢;have:w=0:=by simpa using h2
  rw[this]
theorem Part.small{cs:List Cell}{ESS:List (List Edge)}{R:List Rnd}(h:Part (isIn cs) ESS R):ESS.flatten.length<=4*cs.length:=by rw[<- zbt];exact za4 h.nd λe he=>zcX.mpr ⟨of_decide_eq_true (h.isE e he).2.1,(h.isE e he).1⟩
noncomputable def keyI (r:Rnd):List Int:=[r.y,r.x,PyProof.Rows.b2i (decide (V.str r.so=V.str "hole"))]
noncomputable def Whole(cs:List Cell)(R:List Rnd):Prop:=∃ESS,Part (isIn cs) ESS R/\∀e,e∈ESS.flatten ↔ IsE (isIn cs) e
noncomputable def zdz(K:W.Frag):Sp:=λvs H Q _=>∃(a:Addr) (cs:List Cell),vs=[.ref a]/\LR K H a cs cR/\InOrd cs/\cs.length<=120 /\
 ∀p H' rs R R0,H p=none->Same H H'->H' p=some (.lst rs)->VR rs R rR H'->R.Perm R0->R.Pairwise (λr q=>HT.lexLt (keyI q) (keyI r)=false)->Whole cs R0->Q (.ref p) H'
noncomputable def zcT(K:W.Frag):Sp:=λvs H Q _=>∃(t pe:Addr) (cs:List Cell) (es:List V),vs=[.ref t,.ref pe]/\Tab H t (isIn cs)/\H pe=some (.lst es)/\VR es (allE cs) eR H/\cs.length<=120 /\
 ∀p H' rs R R0,H p=none->Same H H'->H' p=some (.lst rs)->VR rs R rR H'->R.Perm R0->R.Pairwise (λr q=>HT.lexLt (keyI q) (keyI r)=false)->Whole cs R0->Q (.ref p) H'
theorem zd1(T:Txt P w K mg)
    (g_walk_from:Fn P w K mg base 3 "walk_from" ["table","begin"] (zkD K)) (g_round_of:Fn P w K mg base 5 "round_of" ["walk"] (zdK K)) (g_round_order:Fn P w K mg base 1 "round_order" ["one"] (zdm K))
    (d:Df K mg "rounds_along" zbR ["table","edges"]):FnOk P w K mg base CX0 6 d.f d.fd ["table","edges"] (zcT K):=by
  refine d.F.ok zaL (λvs H Q E h=>?_) (λcdv A outer s H2 vs Q E hr h=>?_)
  . obtain⟨t,pe,cs,es,rfl,_⟩:=h;rfl
  . obtain⟨t,pe,cs,es,rfl,tab,epe,hvpe,hlen,k⟩:=h;have hu1:=hu_of hr
    refine⟨_,(zac (sE 2 zaL.nd zfi)
      (zac (sE 3 zaL.nd (zaX zad))
      (zac (zbI Bd rfl (zaS (pv 1)) (nG 4 zaL.nd)
      (zaf (ps_if (zi3 (zgc hu1 (pv 4) (pv 2)))
      (zac (sE 5 zaL.nd (pC g_walk_from hr (pa_N (pv 0) (pa_N (pv 4) zad))))
      (zac (zbI Bd rfl (zaS (pv 5)) (zbl (by rfl) (zah (nG 6 zaL.nd) (zah (nG 7 zaL.nd) zaG)))
      (zaf (zi5 hu1 (pv 2) (pv 6) pe_bl rfl)))
      (zaf (za8 (pe_bm AT AY AZ zaP (pv 3) (zag (pC g_round_of hr (pa_N (pv 5) zad)) zad))))))
      zas)))
      (zaf (zaj (zj8 g_round_order.ok (hr.mono (by decide)) g_round_order.b (by rfl) T.nsorted (by rfl) g_round_order.m (pv 3))))))),?_⟩
    refine λdd hdd=>⟨(by show 0<=sizeLine;decide),λp hp=>?_⟩
    have hpd:p≠dd:=λz=>by subst z;rw[zaa]at hp;cases hp
    have s4:Same H2 (upd (upd H2 dd (.dT [])) p (.lst [])):=(Same.up hdd).trans (Same.up hp);have d4:upd (upd H2 dd (.dT [])) p (.lst []) dd=some (.dT []):=by rw[zam (B8 hpd),zaa]
    have p4:upd (upd H2 dd (.dT [])) p (.lst []) p=some (.lst []):=zaa;have n2:H2 dd=none:=hdd;have n2p:H2 p=none:=by rw[zam hpd]at hp;exact hp
    generalize upd (upd H2 dd (.dT [])) p (.lst [])=H5 at s4 d4 p4;have s15:Same H2 H5:=s4;have e5:=s4 _ _ epe;have hv5:=hvpe.mono λx v hx=>hx.same s4
    refine⟨_,rfl,pe,rfl,⟨_,SqL.of e5⟩,?_⟩;have hped:pe≠dd:=zal epe n2;have hpep:pe≠p:=zal epe n2p
    refine zaH (K := K) (a := pe) (xs := es) (λi σ H6 => ∃o4 o5 o6 o7, σ = [some (.ref t), some (.ref pe), some (.ref dd), some (.ref p), o4, o5, o6, o7] /\ Same H2 H6 /\ H6 pe=some (.lst es) /\ KT H5 H6 /\
        ∃kvs rs ESS R,H6 dd=some (.dT kvs)/\H6 p=some (.lst rs)/\VR rs R rR H6/\Part (isIn cs) ESS R/\(∀e,(valV kvs (kE e)).isSome=decide (e∈ESS.flatten))/\kvs.length<=ESS.flatten.length/\∀e∈(allE cs).take i,e∈ESS.flatten)
      ⟨_,_,_,_,rfl,s15,e5,KT.refl _,[],[],[],[],d4,p4,VR.nil,Part.nil,(λe=>by simp[valV]),Ai _,(λe he=>by simp at he)⟩ (λi σ H6 _ ⟨_,_,_,_,_,_,e6,_⟩=>SqL.of e6) ?_ ?_
    . rintro i v σ H6 hi ⟨o4,o5,o6,o7,rfl,s6,e6,kt6,kvs,rs,ESS,R,d6,p6,hR,hP,hkv,hkl,hall⟩;obtain⟨e,he,b,rfl,qb⟩:=hv5.at hi;have hE:IsE (isIn cs) e:=zdE.mp (As he);have qb6:=kt6 _ _ qb;refine⟨_,rfl,_,rfl,dd,_,rfl,.inr ⟨kvs,kE e,b,Rd.of d6,rfl,qb6,rfl⟩,_,rfl,?_⟩;rw[hkv]
      by_cases hin:e∈ESS.flatten
      . rw[decide_eq_true hin];refine iteF ⟨_,_,_,_,rfl,s6,e6,kt6,kvs,rs,ESS,R,d6,p6,hR,hP,hkv,hkl,λf hf=>?_⟩;rcases (za6 he).mp hf with z |z
        . exact hall f z
        . rw[z];exact hin
      . rw[decide_eq_false hin];refine iteT ?_
        have tab6:=tab.same s6;refine⟨_,rfl,_,rfl,t,b,cs,e,rfl,tab6,qb6,hE,by lia,λpw H7 ws fs hpw s7 e7 hv7 hcl=>?_⟩;have hfs:fs.length<=4*cs.length:=hcl.1.short;have hap:=hcl.apart hP.back hin;have d7:=s7 _ _ d6;have hdw:dd≠pw:=λz=>by subst z;rw[d6]at hpw;cases hpw
        have hws:ws.length=fs.length:=by rw[hv7.1,zcS]
        refine⟨_,rfl,pw,rfl,⟨_,SqL.of e7⟩,?_⟩
        refine zaH (K := K) (a := pw) (xs := ws) (λj σ H8 => ∃o6 o7, σ = [some (.ref t), some (.ref pe), some (.ref dd), some (.ref p), some (.ref b), some (.ref pw), o6, o7] /\ (∀z o, z ≠ dd -> H7 z=some o -> H8 z=some o) /\
            ∃kv8,H8 dd=some (.dT kv8)/\(∀f,(valV kv8 (kE f)).isSome=decide (f∈ESS.flatten∨f∈fs.take j))/\kv8.length<=ESS.flatten.length+j)
          ⟨_,_,rfl,(λz o _ h=>h),kvs,d7,(λf=>by rw[hkv];simp),by lia⟩ (λj σ H8 _ ⟨_,_,_,k8,_⟩=>SqL.of (k8 _ _ (B8 hdw) e7)) ?_ ?_
        . rintro j u σ H8 hj ⟨o6,o7,rfl,k8,kv8,d8,hk8,hl8⟩;obtain⟨⟨f,st⟩,hf,B,bb,rfl,q1,q2⟩:=hv7.at hj
          have hf':fs[j]?=some f:=by
            unfold wk at hf;rw[AI]at hf;obtain⟨g,hg,eg⟩:=BX.mp hf
            cases eg
            exact hg
          have nB:B≠dd:=ne_of q1 d7 (λz=>nomatch z);have nb:bb≠dd:=ne_of q2 d7 (λz=>nomatch z);refine⟨B,_,rfl,SqT.of (k8 _ _ nB q1),rfl,_,_,rfl,_,_,rfl,rfl,?_⟩;have hjl:j<fs.length:=by rw[<- hws];exact (Ac.mp hj).1
          have hsm:=hP.small;refine⟨_,rfl,_,rfl,dd,_,rfl,.inr ⟨kv8,kE f,bb,d8,rfl,k8 _ _ nb q2,zay (by lia),rfl⟩,?_⟩;refine⟨_,_,rfl,(λz o hz h=>by rw[zam hz];exact k8 z o hz h),_,zaa,(λg=>?_),Bf (zaV _ _ _) (by lia)⟩;rw[zdx]
          by_cases eg:g=f
          . rw[if_pos (zkW.mpr eg),decide_eq_true (.inr ((za6 hf').mpr (.inr eg)))];rfl
          . rw[if_neg (λz=>eg (zkW.mp z)),hk8];refine decide_eq_decide.mpr ⟨λz=>z.imp id λq=>(za6 hf').mpr (.inl q),λz=>z.imp id λq=>((za6 hf').mp q).resolve_right eg⟩
        . rintro σ H8 ⟨o6,o7,rfl,k8,kv8,d8,hk8,hl8⟩;rw[hws,AL]at hk8;have hdp:p≠dd:=hpd;have p8:=k8 _ _ hdp (s7 _ _ p6);have kt8:KT H7 H8:=λz xs h=>k8 z _ (ne_of h d7 (λq=>nomatch q)) h
          have w8:H8 pw=some (.lst ws):=k8 _ _ (B8 hdw) e7;have hrl:rs.length<=120:=by rw[hR.1];exact Bf hP.few hlen
          have hh:∀kk,kk=0∨kk=2->∃x∈(wk (isIn cs) fs).map (·.1),x.w=kk:=λkk hkk=>by obtain⟨x,h1,h2⟩:=hcl.has hkk;exact⟨x,by unfold wk;rw[List.map_map];simpa using h1,h2⟩
          refine⟨_,rfl,.inl ⟨rfl,_,SqL.of p8⟩,_,rfl,pw,wk (isIn cs) fs,rfl,LR.of w8 (hv7.mono λx v hx=>hx.kt kt8),(by rw[zcS];lia),hh 0 (.inl rfl),hh 2 (.inr rfl),λvr H9 r s9 hr9 hrn=>?_⟩;have p9:=s9 _ _ p8;refine⟨p,rs,_,rfl,rfl,p9,zay (by lia),?_⟩;have kt9:KT H9 (upd H9 p (.lst (rs++[vr]))):=KT.lst p9;have ktA:KT H6 (upd H9 p (.lst (rs++[vr]))):=(KT.of s7).trans (kt8.trans ((KT.of s9).trans kt9));refine⟨_,_,_,_,rfl,(λz o h=>?_),?_,kt6.trans ktA,kv8,rs++[vr],ESS++[fs],R++[r],?_,zaa,hR.snoc (λx v hx=>hx.kt ktA) (hr9.kt kt9),hP.snoc hcl hrn hin,(λf=>?_),?_,(λf hf=>?_)⟩
          . rw[zam (zal h n2p)];exact s9 _ _ (k8 _ _ (zal h n2) (s7 _ _ (s6 _ _ h)))
          . rw[zam hpep];exact s9 _ _ (k8 _ _ hped (s7 _ _ e6))
          . rw[zam (B8 hpd)];exact s9 _ _ d8
          . rw[hk8];refine decide_eq_decide.mpr ?_
            rw[Dm,Aj];simp
          . rw[Dm,Af,show [fs].flatten=fs by simp];lia
          . rw[Dm,Aj];rcases (za6 he).mp hf with z |z
            . exact .inl (hall f z)
            . rw[z];refine .inr ?_
              have:=hcl.1.1;simpa using As this
    . rintro σ H6 ⟨o4,o5,o6,o7,rfl,s6,e6,kt6,kvs,rs,ESS,R,d6,p6,hR,hP,hkv,hkl,hall⟩;rw[hv5.1,AL]at hall;have hrl:rs.length<=120:=by rw[hR.1];exact Bf hP.few hlen
      have ge:∀(i:Nat) r,R[i]?=some r->R.getD i ⟨"",0,0,[]⟩=r:=λi r h=>by simp only[AB,h,Option.getD_some]
      refine⟨_,rfl,p,rs,λi=>keyV (R.getD i ⟨"",0,0,[]⟩),λi=>keyI (R.getD i ⟨"",0,0,[]⟩),rfl,SqL.of p6,by lia,λi x H7 hx s7=>?_,
        λi j hi hj=>⟨_,_,_,_,_,_,rfl,rfl,.cons (.int _ _) (.cons (.bl _ _) .nil),rfl,rfl⟩,λpp D H7 hpm hpo hD s7 f7=>?_⟩
      . obtain⟨r,hr',hx'⟩:=hR.at hx;refine⟨x,r,rfl,hx'.kt (KT.of s7),λq H8 hq s8 f8=>⟨s8,q,rfl,SqT.of ?_⟩⟩;show H8 q=some (HO.tup (keyV (R.getD i ⟨"",0,0,[]⟩)));rw[ge i r hr'];exact f8
      . have hpl:pp.length=R.length:=by rw[hpm.length_eq,List.length_range,hR.1]
        have hlt:∀i∈pp,i<R.length:=λi hi=>by have:=List.mem_range.mp (hpm.mem_iff.mp hi);rw[hR.1]at this;exact this
        have hRR:(pp.map λi=>R.getD i ⟨"",0,0,[]⟩).Perm R:=by
          have h1:=hpm.map λi=>R.getD i (⟨"",0,0,[]⟩:Rnd)
          rw[hR.1]at h1
          have h2:((BD R.length).map λi=>R.getD i (⟨"",0,0,[]⟩:Rnd))=R:=by
            apply List.ext_getElem
            . simp
            . intro i a b;simp[show i<R.length by simpa using a]
          rw[h2]at h1;exact h1
        have vR:VR (pp.map λi=>rs.getD i V.non) (pp.map λi=>R.getD i ⟨"",0,0,[]⟩) rR H7:=by
          refine⟨by simp,λi r v h1 h2=>?_⟩;rw[AI]at h1 h2;obtain⟨a,ha,rfl⟩:=BX.mp h1;rw[ha]at h2
          cases h2
          have hal:=hlt a (As ha);have hal2:a<rs.length:=by rw[hR.1];exact hal
          have e1:R.getD a ⟨"",0,0,[]⟩=R[a]:=by simp[hal]
          have e2:rs.getD a V.non=rs[a]:=by simp[hal2]
          rw[e1];show rR R[a] (rs.getD a V.non) H7;rw[e2];exact (hR.2 a _ _ (Aa hal) (Aa hal2)).kt (KT.of s7)
        refine k D H7 _ _ R (s6.free hD) (s6.trans s7) f7 vR hRR ?_ ⟨ESS,hP,λe=>⟨hP.isE e,λh=>hall e (zdE.mpr h)⟩⟩
        rw[List.pairwise_map];exact hpo
theorem zjg (T:Txt P w K mg) (g_ask_picture:Fn P w K mg base 2 "ask_picture" ["picture"] (spAsk K)) (g_cell_table:Fn P w K mg base 1 "cell_table" ["picture"] (zgR K)) (g_all_edges:Fn P w K mg base 3 "all_edges" ["picture"] (zkH K))
  (g_rounds_along:Fn P w K mg base 6 "rounds_along" ["table","edges"] (zcT K))
  (d:Df K mg "rounds" zfe ["picture"]):FnOk P w K mg base CX0 7 d.f d.fd ["picture"] (zdz K):=by
 refine d.F.ok ziS (λvs H Q E h=>?_) (λcdv A outer s H vs Q E hr h=>?_)
 .obtain⟨a,cs,rfl,_⟩:=h;rfl
 .obtain⟨a,cs,rfl,hLR,hord,hlen,k⟩:=h;have hu1:=hu_of hr
  refine⟨_,(zac (za8 (pC g_ask_picture hr (pa_N (pv 0) zad)))
   (zaf (zaj (pC g_rounds_along hr (zag (pC g_cell_table hr (pa_N (pv 0) zad)) (zag (pC g_all_edges hr (pa_N (pv 0) zad)) zad)))))),?_⟩
  refine⟨_,rfl,a,cs,rfl,hLR,hord,by lia,λH1 s1=>?_⟩;have hLR1:=hLR.same s1 λx v hx=>hx.same s1
  refine⟨_,rfl,a,cs,rfl,hLR1,by lia,λt H2 ht s2 tab=>?_⟩;refine⟨_,rfl,a,cs,rfl,hLR1.same s2 (λx v hx=>hx.same s2),by lia,λpe H5 es hpe s5 e5 hv5=>?_⟩;refine⟨t,pe,cs,es,rfl,tab.same s5,e5,hv5,hlen,λp H' rs R R0 hp sp f1 f2 f3 f4 f5=>?_⟩;exact k p H' rs R R0 (s1.free (s2.free (s5.free hp))) (s1.trans (s2.trans (s5.trans sp))) f1 f2 f3 f4 f5
theorem _root_.RP.Closed.uniq{C:Cell->Bool}{b:Edge}{es fs:List Edge}(h:Closed C b es)(k:Closed C b fs):es=fs:=by
 have lt:∀{es fs:List Edge},Closed C b es->Closed C b fs->¬ es.length<fs.length:=λ{es fs} h k hl=>by have e:=h.it_len;have hp:=h.pos;have g1:=k.1.get es.length hl;have g2:=k.1.get 0 (by lia);rw[e]at g1;have:=(List.getElem?_inj (i:=es.length) (j:=0) hl k.1.2.2.2).mp (by rw[g1,g2];rfl);lia
 have hl:es.length=fs.length:=by have:=lt h k;have:=lt k h;lia
 apply List.ext_getElem?
 intro i;rcases A8 i es.length with hi |hi
 .rw[h.1.get i hi,k.1.get i (by lia)]
 .rw[List.getElem?_eq_none hi,List.getElem?_eq_none (by lia)]
theorem zhA{α:Type}(l:List α)(j:Nat):(l.drop j++l.take j).Perm l:=by have:=Cy (l₁:=l.drop j) (l₂:=l.take j);rw[BJ]at this;exact this
theorem _root_.RP.Closed.share{C:Cell -> Bool}{b c e:Edge}{es fs:List Edge}(h:Closed C b es)(k:Closed C c fs)(h1:e ∈ es)(h2:e ∈ fs) :
  ∃i j,es[i]?=some e/\fs[j]?=some e/\es.drop i++es.take i=fs.drop j++fs.take j:=by
 obtain⟨i,hi,ei⟩:=AR h1;obtain⟨j,hj,ej⟩:=AR h2;have a1:es[i]?=some e:=by rw[Aa hi,ei]
 have a2:fs[j]?=some e:=by rw[Aa hj,ej]
 exact⟨i,j,a1,a2,(h.rot i a1).uniq (k.rot j a2)⟩
theorem _root_.RP.Closed.perm{C:Cell->Bool}{b c e:Edge}{es fs:List Edge}(h:Closed C b es)(k:Closed C c fs)(h1:e∈es)(h2:e∈fs):es.Perm fs:=by obtain⟨i,j,_,_,q⟩:=h.share k h1 h2;exact (zhA es i).symm.trans (q ▸ zhA fs j)
theorem zhh{C:Cell->Bool}(es:List Edge):(wk C es).map (·.1)=es:=by unfold wk;rw[List.map_map];exact List.map_id' _
theorem zh7{C:Cell->Bool}{es fs:List Edge}(p:es.Perm fs):sortS (wk C es)=sortS (wk C fs):=by have q:(wk C es).Perm (wk C fs):=p.map _;unfold sortS nL nS;have a:=(q.filter λq=>q.2.isNone).length_eq;have b:=(q.filter λq=>slant q.2).length_eq;rw[a,b]
theorem lex2{a b c d:Int}(h1:HT.lexLt [a,b] [c,d]=false)(h2:HT.lexLt [c,d] [a,b]=false):a=c/\b=d:=by have:=HT.lexLt_total h1 h2;simpa using this
theorem zep.one{W W':Wk}{s:Str}{e f:Edge}(p:(W.map (·.1)).Perm (W'.map (·.1)))(h:zep W s e)(k:zep W' s f):e=f:=by obtain⟨h1,h2,h3⟩:=h;obtain⟨k1,k2,k3⟩:=k;have a:=h3 f (p.mem_iff.mpr k1) k2;have b:=k3 e (p.mem_iff.mp h1) h2;obtain⟨q1,q2⟩:=lex2 a b;obtain⟨⟨x,y⟩,w⟩:=e;obtain⟨⟨x',y'⟩,w'⟩:=f;simp only at q1 q2 h2 k2;rw[h2,k2,q1,q2]
theorem IsRnd.one{C:Cell->Bool}{b c e:Edge}{es fs:List Edge}{r q:Rnd}(h:Closed C b es)(k:Closed C c fs)(h1:e∈es)(h2:e∈fs)(hr:IsRnd (wk C es) r)(hq:IsRnd (wk C fs) q):r=q:=by
 have p:=h.perm k h1 h2;obtain⟨r0,i,f,rf,rb,rx,ry,rr⟩:=hr;obtain⟨q0,j,g,qg,qb,qx,qy,qr⟩:=hq;have ss:=zh7 (C:=C) p;rw[<- ss]at qb;have fg:f=g:=rb.one (by rw[zhh,zhh];exact p) qb;subst fg;rw[zhh]at rf qg;have e1:=(h.rot i rf).uniq (k.rot j qg)
 have e2:(wk C es).drop i++(wk C es).take i=(wk C fs).drop j++(wk C fs).take j:=by unfold wk;rw[<- List.map_drop,<- List.map_take,<- Bc,e1,Bc,List.map_drop,List.map_take]
 obtain⟨a1,a2,a3,a4⟩:=r;obtain⟨b1,b2,b3,b4⟩:=q;simp only at r0 rx ry rr q0 qx qy qr;rw[r0,q0,rx,ry,rr,qx,qy,qr,ss,e2]
noncomputable def begE(r:Rnd):Edge:=⟨(r.x,r.y),kOf r.so⟩
theorem IsRnd.beg {C:Cell->Bool}{es:List Edge}{r:Rnd}(h:IsRnd (wk C es) r):begE r∈es/\(r.so = "rim" ∨ r.so = "hole"):=by
 obtain⟨r0,i,f,rf,⟨rb,rw',_⟩,rx,ry,rr⟩:=h;rw[zhh]at rb;refine⟨?_,by rw[r0];exact ze7 _⟩
 have:begE r=f:=by obtain⟨⟨x,y⟩,w⟩:=f;unfold begE;rw[rx,ry,r0];simp only at rw' ⊢;rw[rw']
 rw[this];exact rb
theorem Part.got{C:Cell->Bool}{ESS:List (List Edge)}{R:List Rnd}(h:Part C ESS R){i:Nat}{r:Rnd}(hr:R[i]?=some r):∃es b,ESS[i]?=some es/\Closed C b es/\IsRnd (wk C es) r:=by have hi:=(Ac.mp hr).1;rw[h.len]at hi;obtain⟨⟨b,hb⟩,q⟩:=h.each i _ r (Aa hi) hr;exact⟨_,b,Aa hi,hb,q⟩
theorem zku{α:Type}{L:List (List α)}(h:L.flatten.Nodup):∀{i j:Nat}{a b:List α}{x:α},L[i]?=some a->L[j]?=some b->x∈a->x∈b->i=j:=by
 induction L with
 |nil=>intro i j a b x h1;simp at h1
 |cons l r ih =>
  rw[Ch,Dc]at h;obtain⟨_,h2,h3⟩:=h;intro i j a b x h1 h4 xa xb
  cases i with
  |zero =>
   cases j with
   |zero=>rfl
   |succ j =>
    simp only[List.getElem?_cons_zero,Option.some.injEq,CQ]at h1 h4;subst h1;exact absurd rfl (h3 x xa x (List.mem_flatten.mpr ⟨b,As h4,xb⟩))
  |succ i =>
   cases j with
   |zero =>
    simp only[List.getElem?_cons_zero,Option.some.injEq,CQ]at h1 h4;subst h4;exact absurd rfl (h3 x xb x (List.mem_flatten.mpr ⟨a,As h1,xa⟩))
   |succ j =>
    have:=ih h2 (i:=i) (j:=j) (by simpa using h1) (by simpa using h4) xa xb;rw[this]
theorem Part.beg_inj{C:Cell->Bool}{ESS:List (List Edge)}{R:List Rnd}(h:Part C ESS R){i j:Nat}{r q:Rnd}(hr:R[i]?=some r)(hq:R[j]?=some q)(e:begE r=begE q):i=j:=by obtain⟨es,b,h1,h2,h3⟩:=h.got hr;obtain⟨fs,c,k1,k2,k3⟩:=h.got hq;exact zku h.nd h1 k1 h3.beg.1 (e ▸ k3.beg.1)
theorem Part.so {C:Cell->Bool}{ESS:List (List Edge)}{R:List Rnd}(h:Part C ESS R){r:Rnd}(hr:r∈R):r.so = "rim" ∨ r.so = "hole":=by obtain⟨i,hi,ei⟩:=AR hr;obtain⟨es,b,h1,h2,h3⟩:=h.got (by rw[Aa hi,ei]);exact h3.beg.2
theorem Whole.mem{cs:List Cell}{R S:List Rnd}(h:Whole cs R)(k:Whole cs S){r:Rnd}(hr:r∈R):r∈S:=by
 obtain⟨E,h1,h2⟩:=h;obtain⟨F,k1,k2⟩:=k;obtain⟨i,hi,ei⟩:=AR hr;obtain⟨es,b,a1,a2,a3⟩:=h1.got (by rw[Aa hi,ei]);have m:=a3.beg.1;obtain⟨fs,f1,f2⟩:=List.mem_flatten.mp ((k2 _).mpr (a2.1.2.2.1 _ m));obtain⟨j,hj,ej⟩:=AR f1;have hjs:j<S.length:=by rw[k1.len];exact hj
 obtain⟨⟨c,hc⟩,q⟩:=k1.each j fs S[j] (by rw[Aa hj,ej]) (Aa hjs);rw[IsRnd.one a2 hc m f2 a3 q];exact A3 _
theorem zlB {r q:Rnd}(hr:r.so = "rim" ∨ r.so = "hole") (hq:q.so = "rim" ∨ q.so = "hole") (h:keyI r=keyI q):begE r=begE q:=by obtain⟨a1,a2,a3,a4⟩:=r;obtain⟨b1,b2,b3,b4⟩:=q;simp only[keyI,List.cons.injEq,and_true]at h;obtain⟨h1,h2,h3⟩:=h;subst h1 h2;unfold begE;simp only at hr hq h3 ⊢;have n:decide (V.str "rim" = V.str "hole")=false:=decide_eq_false (by decide);have y:decide (V.str "hole" = V.str "hole")=true:=decide_eq_true rfl;rcases hr with rfl |rfl <;> rcases hq with rfl |rfl <;> first |rfl | (rw[n,y]at h3;exact absurd h3 (by decide))
theorem zlA{r q:Rnd}(h1:HT.lexLt (keyI r) (keyI q)=false)(h2:HT.lexLt (keyI q) (keyI r)=false):keyI r=keyI q:=HT.lexLt_total h1 h2
noncomputable abbrev InKey(R:List Rnd):Prop:=R.Pairwise (λr q=>HT.lexLt (keyI q) (keyI r)=false)
theorem InKey.one:∀{R S:List Rnd},InKey R->InKey S->(∀r,r∈R ↔ r∈S)->R.Nodup->S.Nodup->(∀r∈R,∀q∈R,keyI r=keyI q->r=q)->R=S
  |[],[],_,_,_,_,_,_=>rfl
  |[],q::S,_,_,h,_,_,_=>by have:=(h q).mpr AE;cases this
  |r::R,[],_,_,h,_,_,_=>by have:=(h r).mp AE;cases this
  |r::R,q::S,h1,h2,h,n1,n2,kj=>by
    obtain⟨a1,a2⟩:=DE.mp h1;obtain⟨b1,b2⟩:=DE.mp h2
    have e:r=q:=by
      rcases Av.mp ((h r).mp AE) with z |z
      . exact z
      rcases Av.mp ((h q).mpr AE) with y |y
      . exact y.symm
      . exact kj r AE q (Az _ y) (zlA (b1 r z) (a1 q y))
    subst e;have m1:=B4.mp n1;have m2:=B4.mp n2
    rw[InKey.one a2 b2 (λx => ⟨λhx => by
        rcases Av.mp ((h x).mp (Az _ hx)) with z |z
        . rw[z]at hx;exact absurd hx m1.1
        . exact z,λhx=>by
        rcases Av.mp ((h x).mpr (Az _ hx)) with z |z
        . rw[z]at hx;exact absurd hx m2.1
        . exact z⟩) m1.2 m2.2 λx hx y hy=>kj x (Az _ hx) y (Az _ hy)]
theorem Part.nodup{C:Cell->Bool}{ESS:List (List Edge)}{R:List Rnd}(h:Part C ESS R):R.Nodup:=by unfold List.Nodup;rw[CB];intro i j hi hj hij e;have:=h.beg_inj (i:=i) (j:=j) (r:=R[j]) (q:=R[j]) (by rw[Aa hi,e]) (Aa hj) rfl;lia
theorem Part.key_inj{C:Cell->Bool}{ESS:List (List Edge)}{R:List Rnd}(h:Part C ESS R):∀r∈R,∀q∈R,keyI r=keyI q->r=q:=by intro r hr q hq e;have be:=zlB (h.so hr) (h.so hq) e;obtain⟨i,hi,ei⟩:=AR hr;obtain⟨j,hj,ej⟩:=AR hq;have:=h.beg_inj (i:=i) (j:=j) (by rw[Aa hi,ei]) (by rw[Aa hj,ej]) be;subst this;rw[<- ei,<- ej]
theorem Whole.one{cs:List Cell}{R R0 S S0:List Rnd}(p:R.Perm R0)(q:S.Perm S0)(hR:InKey R)(hS:InKey S)(h:Whole cs R0)(k:Whole cs S0):R=S:=by
 obtain⟨E,h1,h2⟩:=id h;obtain⟨F,k1,k2⟩:=id k;refine InKey.one hR hS (λr=>⟨λm=>q.mem_iff.mpr (h.mem k (p.mem_iff.mp m)),λm=>p.mem_iff.mpr (k.mem h (q.mem_iff.mp m))⟩) (p.nodup_iff.mpr h1.nodup) (q.nodup_iff.mpr k1.nodup) ?_
 exact λr hr q hq=>h1.key_inj r (p.mem_iff.mp hr) q (p.mem_iff.mp hq)
theorem zc1(s:Nat):∀(l:List Nat) (w:Nat),dgo w (l++[s])=((dgo w l).1++(Ae ((zak s+4-(dgo w l).2) % 4) none++[some s]),wayB s)
 |[],w=>by simp[dgo]
 |a::l,w=>by
  have ih:=zc1 s l (wayB a);show (Ae ((zak a+4-w) % 4) none++some a::(dgo (wayB a) (l++[s])).1,(dgo (wayB a) (l++[s])).2)=_;rw[ih];show _=((Ae ((zak a+4-w) % 4) none++some a::(dgo (wayB a) l).1)++_,_);simp;rfl
theorem zed:∀(l:List Nat) (w:Nat),(dgo w l).1.length<=4*l.length
 |[],w=>by simp[dgo]
 |a::l,w=>by
  have ih:=zed l (wayB a);show (Ae ((zak a+4-w) % 4) none++some a::(dgo (wayB a) l).1).length<=_;have:(zak a+4-w) % 4<4:=Bj _ (by decide);simp only[Af,AK,AS];lia
theorem zdk:∀(l:List Nat) (w:Nat),w<4->(dgo w l).2<4
 |[],w,h=>h
 |a::l,w,h=>zdk l (wayB a) (Bj _ (by decide))
theorem zbY(s:Nat):zak s<4:=Bj _ (by decide)
theorem zhQ(n:Nat):(Ae n [V.non]).flatten=(Ae n (none:Option Nat)).map sv:=by
 induction n with
 |zero=>rfl
 |succ n ih=>rw[BY,Ch,ih];rfl
theorem zbp{n:Nat}(h:n<=5000):n<sizeLine:=Bt h (by decide)
theorem zkQ:1<=sizeLine:=by decide
noncomputable def ze5:Sp:=λvs H Q _=>∃s:Nat,vs=[.int s]/\Q (.int (zak s:Nat)) H
theorem zie (d:Df K mg "way_for" zdQ ["step"]):FnOk P w K mg base CX0 1 d.f d.fd ["step"] ze5:=by
 refine d.F.ok zia (λvs H Q E h=>?_) (λcdv A outer s H vs Q E hr h=>?_)
 .obtain⟨s,rfl,_⟩:=h;rfl
 .obtain⟨t,rfl,k⟩:=h;refine⟨_,(zaf (zaj (pe_op zaN (pe_op zbU (pe_op zaF (pv 0) zab) zab) zab))),?_⟩;refine⟨_,rfl,_,_,rfl,rfl,_,_,rfl,rfl,⟨by decide,by decide⟩,_,_,rfl,rfl,(by show (0:Int)<4;decide),?_⟩;have e:((t:Int)+1) / 2 % 4=(zak t:Nat):=by unfold zak;lia
  show Q (V.int (((t:Int)+1) / 2 % 4)) H;rw[e];exact k
noncomputable def ziM(K:W.Frag):Sp:=λvs H Q _=>∃(wn:Nat) (b:Addr) (row:List Nat),vs=[.int (wn:Int),.ref b]/\wn<4/\SqT K H b (rowV row)/\row.length<=500 /\
 ∀p H',H p=none->Same H H'->H' p=some (.lst ((deeds wn row).map sv))->Q (.ref p) H'
theorem zey (g_way_for:Fn P w K mg base 1 "way_for" ["step"] ze5) (d:Df K mg "deeds_along" zb7 ["begin_way","row"]):FnOk P w K mg base CX0 2 d.f d.fd ["begin_way","row"] (ziM K):=by
 refine d.F.ok zaZ (λvs H Q E h=>?_) (λcdv A outer s H vs Q E hr h=>?_)
 .obtain⟨wn,b,row,rfl,_⟩:=h;rfl
 .obtain⟨wn,b,row,rfl,hw,hq,hlen,k⟩:=h
  refine⟨_,(zac (sE 2 zaZ.nd (pv 0))
   (zac (sE 3 zaZ.nd (zaX zad))
   (zac (zbI Bd rfl (zdX (pv 1)) (nG 4 zaZ.nd)
   (zac (za8 (pe_bm AT PySem.F.slot_list_extend PySem.F.type_list_extend zgn (pv 3) (pa_B (pe_op zkN (zaX (pa_C zbm zad)) (pe_op zaN (pe_op zbi (pC g_way_for hr (pa_N (pv 4) zad)) (pv 2)) zab)) zad)))
   (zac (za8 (pe_bm AT AY AZ zaP (pv 3) (pa_N (pv 4) zad)))
   (zaf (sE 2 zaZ.nd (pe_op zaN (pe_op zbi (pC g_way_for hr (pa_N (pv 4) zad)) (pe_op zaN (pv 4) zab)) zab))))))
   (zac (sE 5 zaZ.nd (zfh (zhC (pv 1) (λ_=>rfl)) (pe_op zaN (pe_op zbi (pv 0) (pv 2)) zab) zab))
   (zaf (zaj (pe_op zkP (pv 3) (pe_op zkN (zaX (pa_C zbm zad)) (pv 5))))))))),?_⟩
  refine⟨_,rfl,(by show 0<=sizeLine;decide),λp hp=>?_⟩;have s0:Same H (upd H p (.lst [])):=Same.up hp;have e0:upd H p (.lst []) p=some (.lst []):=zaa;generalize upd H p (.lst [])=H0 at s0 e0;refine⟨_,rfl,b,rfl,⟨_,s0.seqT hq⟩,?_⟩;have hrl:(rowV row).length=row.length:=by unfold rowV;exact Am _
  refine zdh (K:=K) (a:=b) (xs:=rowV row) (λi σ H1=>∃o4 o5,σ=[some (.int (wn:Int)),some (.ref b),some (.int ((dgo wn (row.take i)).2:Nat)),some (.ref p),o4,o5]/\Same H H1/\H1 p=some (.lst ((dgo wn (row.take i)).1.map sv)))
   ⟨_,_,rfl,s0,e0⟩ (λi σ H1 _ ⟨_,_,_,s1,_⟩=>s1.seqT hq) ?_ ?_
  .rintro i v σ H1 hi ⟨o4,o5,rfl,s1,e1⟩;have hi':i<row.length:=by rw[<- hrl];exact (Ac.mp hi).1
   unfold rowV at hi;rw[AI,Aa hi']at hi
   cases hi
   have hdl:=zed (row.take i) wn;rw[AX]at hdl;have hdw:=zdk (row.take i) wn hw;have hwf:=zbY row[i];have hn:=zc1 row[i] (row.take i) wn;rw[<- zaC (Aa hi')]at hn;refine⟨_,rfl,.inl ⟨rfl,_,SqL.of e1⟩,zkQ,λl hl=>?_⟩;have s2:Same H1 (upd H1 l (.lst [.non])):=Same.up hl;have e2:upd H1 l (.lst [.non]) l=some (.lst [.non]):=zaa;generalize upd H1 l (.lst [.non])=H2 at s2 e2;refine⟨_,rfl,row[i],rfl,?_⟩;refine⟨_,rfl,_,_,rfl,rfl,_,_,rfl,rfl,(by show (0:Int)<4;decide),?_⟩;have ek:(((zak row[i]:Nat):Int)-((dgo wn (row.take i)).2:Nat)) % 4=(((zak row[i]+4-(dgo wn (row.take i)).2) % 4:Nat):Int):=by lia
   have k4:(zak row[i]+4-(dgo wn (row.take i)).2) % 4<4:=Bj _ (by decide);generalize hk:(zak row[i]+4-(dgo wn (row.take i)).2) % 4=kk at *;refine⟨l,(kk:Int),_,rfl,congrArg V.int ek,e2,by lia,by lia,(A7 (zay (by simp;lia))),λq hq'=>?_⟩;rw[CJ,zhQ];have s3:Same H2 (upd H2 q (.lst ((Ae kk (none:Option Nat)).map sv))):=Same.up hq';have e3:upd H2 q (.lst ((Ae kk (none:Option Nat)).map sv)) q=some (.lst ((Ae kk (none:Option Nat)).map sv)):=zaa;have hpq:p≠q:=λz=>by subst z;rw[s2 _ _ e1]at hq';cases hq'
   generalize upd H2 q (.lst ((Ae kk (none:Option Nat)).map sv))=H3 at s3 e3;have e13:=s3 _ _ (s2 _ _ e1);refine⟨p,q,_,_,rfl,rfl,e13,e3,?_,?_⟩
   .simp only[Am,AK];exact A7 (zbp (by lia))
   have hp2:H p=none:=hp;have s4:Same H (upd H3 p (.lst ((dgo wn (row.take i)).1.map sv++(Ae kk (none:Option Nat)).map sv))):=zar hp2 (s1.trans (s2.trans s3));have e4:upd H3 p (.lst ((dgo wn (row.take i)).1.map sv++(Ae kk (none:Option Nat)).map sv)) p=some (.lst ((dgo wn (row.take i)).1.map sv++(Ae kk (none:Option Nat)).map sv)):=zaa;generalize upd H3 p (.lst ((dgo wn (row.take i)).1.map sv++(Ae kk (none:Option Nat)).map sv))=H4 at s4 e4;refine⟨_,rfl,.inl ⟨rfl,_,SqL.of e4⟩,_,rfl,p,_,_,rfl,rfl,e4,?_,?_⟩
   .simp only[Af,Am,AK];exact zbp (by lia)
   have s5:Same H (upd H4 p (.lst (((dgo wn (row.take i)).1.map sv++(Ae kk (none:Option Nat)).map sv)++[V.int (row[i]:Nat)]))):=zar hp2 s4
   have e5:upd H4 p (.lst (((dgo wn (row.take i)).1.map sv++(Ae kk (none:Option Nat)).map sv)++[V.int (row[i]:Nat)])) p=some (.lst ((dgo wn (row.take (i+1))).1.map sv)):=by rw[zaa,hn];simp[sv]
   generalize upd H4 p (.lst (((dgo wn (row.take i)).1.map sv++(Ae kk (none:Option Nat)).map sv)++[V.int (row[i]:Nat)]))=H5 at s5 e5;refine⟨_,rfl,row[i],rfl,?_⟩;refine⟨_,rfl,_,_,rfl,rfl,(by show (0:Int)<2;decide),_,_,rfl,rfl,_,_,rfl,rfl,(by show (0:Int)<4;decide),?_⟩
   have ew:(((zak row[i]:Nat):Int)-(row[i]:Int) % 2) % 4=((dgo wn (row.take (i+1))).2:Nat):=by rw[hn];show _=((wayB row[i]:Nat):Int);unfold wayB;lia
   refine⟨some (V.int (row[i]:Nat)),o5,?_,s5,e5⟩;exact congrArg (λz:Int=>[some (V.int (wn:Int)),some (V.ref b),some (V.int z),some (V.ref p),some (V.int (row[i]:Nat)),o5]) ew
  .rintro σ H1 ⟨o4,o5,rfl,s1,e1⟩;rw[hrl,AL]at e1;rw[hrl,AL];have hdl:=zed row wn;have hdw:=zdk row wn hw
   have fin:∀z:Int,z=(zaQ wn row:Nat)->tRet (tOp rCat (tVar 3) (tOp rRep (tLst (tCons (tC .non) tNil)) (tVar 5))) { nx:=λ_ H'=>Q .non H',rt:=Q } [some (.int (wn:Int)),some (.ref b),some (.int ((dgo wn row).2:Nat)),some (.ref p),o4,some (.int z)] H1:=λz hz=>by
    have hll:zaQ wn row<=4:=by
     unfold zaQ;split
     .decide
     .exact A7 (Bj _ (by decide))
    refine⟨_,rfl,zkQ,λl hl=>?_⟩;have s2:Same H1 (upd H1 l (.lst [.non])):=Same.up hl;have e2:upd H1 l (.lst [.non]) l=some (.lst [.non]):=zaa;generalize upd H1 l (.lst [.non])=H2 at s2 e2;subst hz;refine⟨_,rfl,l,_,_,rfl,rfl,e2,by lia,by lia,(A7 (zay (by simp;lia))),λq hq'=>?_⟩;rw[CJ,zhQ];have s3:Same H2 (upd H2 q (.lst ((Ae (zaQ wn row) (none:Option Nat)).map sv))):=Same.up hq';have e3:upd H2 q (.lst ((Ae (zaQ wn row) (none:Option Nat)).map sv)) q=some (.lst ((Ae (zaQ wn row) (none:Option Nat)).map sv)):=zaa;generalize upd H2 q (.lst ((Ae (zaQ wn row) (none:Option Nat)).map sv))=H3 at s3 e3;refine⟨p,q,_,_,rfl,rfl,s3 _ _ (s2 _ _ e1),e3,?_,λx hx=>?_⟩
    .simp only[Am,AK];exact A7 (zbp (by lia))
    .have s13:=s1.trans (s2.trans s3);refine k x _ (s13.free hx) (s13.trans (Same.up hx)) ?_
     rw[zaa];unfold deeds;rw[Bc]
   refine⟨_,rfl,_,.inr (.inl ⟨_,s1.seqT hq,rfl⟩),?_⟩
   by_cases he:row=[]
   .exact iteN (by rw[he];rfl) (fin 4 (by rw[he];rfl))
   .refine iteY (by cases row with |nil=>exact absurd rfl he |cons x r=>rfl) ⟨_,rfl,_,rfl,_,_,rfl,rfl,_,_,rfl,rfl,(by show (0:Int)<4;decide),fin _ ?_⟩
    have hl:zaQ wn row=(wn+4-(dgo wn row).2) % 4:=by unfold zaQ;rw[if_neg (by simpa using he)]
    rw[hl];lia
noncomputable def wby:Edge->List (Option Nat)->List (Edge×Option Nat)
 |_,[]=>[]
 |e,d::r=>(e,d)::wby (edgeB e d) r
noncomputable def eAt:Edge->List (Option Nat)->Edge
 |e,[]=>e
 |e,d::r=>eAt (edgeB e d) r
theorem zhT(d:Option Nat):∀(l:List (Option Nat)) (e:Edge),eAt e (l++[d])=edgeB (eAt e l) d
 |[],_=>rfl
 |_::l,e=>zhT d l _
theorem zhi(d:Option Nat):∀(l:List (Option Nat)) (e:Edge),wby e (l++[d])=wby e l++[(eAt e l,d)]
 |[],_=>rfl
 |a::l,e=>by
  show (e,a)::wby (edgeB e a) (l++[d])=_;rw[zhi d l];rfl
theorem zbA:∀(l:List (Option Nat)) (e:Edge),(wby e l).length=l.length
 |[],_=>rfl
 |a::l,e=>by show (wby (edgeB e a) l).length+1=_;rw[zbA l];rfl
theorem zfI{e:Edge}{o:Option Nat}(h:e.w<4):(edgeB e o).w<4:=by
 unfold edgeB
 cases o with
 |none=>exact Bj _ (by decide)
 |some s=>simp only;split <;> simp only <;> lia
theorem zkY:∀(l:List (Option Nat)){e:Edge},e.w<4->(eAt e l).w<4
 |[],_,h=>h
 |_::l,_,h=>zkY l (zfI h)
noncomputable def zhq(K:W.Frag):Sp:=λvs H Q _=>∃(a l:Addr) (b:Edge) (ds:List (Option Nat)),vs=[.ref a,.ref l]/\H a=some (.tup (edgeT b))/\b.w<4/\H l=some (.lst (ds.map sv))/\(∀s,some s∈ds->s<8)/\ds.length<=3000 /\
 ∀p H' ws,H p=none->Same H H'->H' p=some (.lst ws)->VR ws (wby b ds) wR H'->Q (.ref p) H'
theorem zif (g_edge_behind:Fn P w K mg base 2 "edge_behind" ["edge","step"] (zdM K)) (d:Df K mg "walk_by" zdR ["begin","deeds"]):FnOk P w K mg base CX0 3 d.f d.fd ["begin","deeds"] (zhq K):=by
 refine d.F.ok zbZ (λvs H Q E h=>?_) (λcdv A outer s H vs Q E hr h=>?_)
 .obtain⟨a,l,b,ds,rfl,_⟩:=h;rfl
 .obtain⟨a,l,b,ds,rfl,ha,hb,hl,h8,hlen,k⟩:=h
  refine⟨_,(zac (sE 2 zbZ.nd (zaX zad))
   (zac (sE 3 zbZ.nd (pv 0))
   (zac (zbI Bd rfl (zaS (pv 1)) (nG 4 zbZ.nd)
   (zac (za8 (pe_bm AT AY AZ zaP (pv 2) (pa_T (zav (pa_N (pv 3) (pa_N (pv 4) zad))) zad)))
   (zaf (sE 3 zbZ.nd (pC g_edge_behind hr (pa_N (pv 3) (pa_N (pv 4) zad)))))))
   (zaf (zaj (pv 2)))))),?_⟩
  refine⟨(by show 0<=sizeLine;decide),λp hp=>?_⟩;have s0:Same H (upd H p (.lst [])):=Same.up hp;have e0:upd H p (.lst []) p=some (.lst []):=zaa;generalize upd H p (.lst [])=H0 at s0 e0;refine⟨_,rfl,_,rfl,l,rfl,⟨_,SqL.of (s0 _ _ hl)⟩,?_⟩
  refine zaH (K:=K) (a:=l) (xs:=ds.map sv) (λi σ H1=>∃(c:Addr) (o4:Option V) (ws:List V),σ=[some (.ref a),some (.ref l),some (.ref p),some (.ref c),o4]/\Same H H1/\H1 c=some (.tup (edgeT (eAt b (ds.take i))))/\H1 p=some (.lst ws)/\VR ws (wby b (ds.take i)) wR H1)
   ⟨a,_,[],rfl,s0,s0 _ _ ha,e0,VR.nil⟩ (λi σ H1 _ ⟨_,_,_,_,s1,_⟩=>SqL.of (s1 _ _ hl)) ?_ ?_
  .rintro i v σ H1 hi ⟨c,o4,ws,rfl,s1,hc,e1,hv⟩;have hi':i<ds.length:=by have:=(Ac.mp hi).1;rwa [Am]at this
   rw[AI,Aa hi']at hi
   cases hi
   have tk:=zaC (Aa hi');have wl:ws.length<=3000:=by rw[hv.1,zbA,AX];lia
   refine⟨_,rfl,.inl ⟨rfl,_,SqL.of e1⟩,_,rfl,_,rfl,two,λt ht=>?_⟩;have s2:Same H1 (upd H1 t (.tup [.ref c,sv ds[i]])):=Same.up ht;have e2:upd H1 t (.tup [.ref c,sv ds[i]]) t=some (.tup [.ref c,sv ds[i]]):=zaa;generalize upd H1 t (.tup [.ref c,sv ds[i]])=H2 at s2 e2;have e12:=s2 _ _ e1;refine⟨p,ws,_,rfl,rfl,e12,zbp (by lia),?_⟩;have kt3:KT H2 (upd H2 p (.lst (ws++[.ref t]))):=KT.lst e12;have s3:Same H (upd H2 p (.lst (ws++[.ref t]))):=zar hp (s1.trans s2);have e3:upd H2 p (.lst (ws++[.ref t])) p=some (.lst (ws++[.ref t])):=zaa;generalize upd H2 p (.lst (ws++[.ref t]))=H3 at kt3 s3 e3;have hc3:=kt3 _ _ (s2 _ _ hc);refine⟨_,rfl,_,rfl,c,eAt b (ds.take i),ds[i],rfl,SqT.of hc3,zkY _ hb,λz hz=>h8 z (hz ▸ A3 _),λq H4 hq s4 e4=>?_⟩;refine⟨q,_,ws++[.ref t],rfl,s3.trans s4,?_,s4 _ _ e3,?_⟩
   .rw[tk,zhT];exact e4
   .rw[tk,zhi];exact hv.snoc (λx v h=>((h.kt (KT.of s2)).kt kt3).kt (KT.of s4)) ⟨t,c,rfl,s4 _ _ (kt3 _ _ e2),s4 _ _ hc3⟩
  .rintro σ H1 ⟨c,o4,ws,rfl,s1,hc,e1,hv⟩;rw[Am,AL]at hv;exact⟨_,rfl,k p H1 ws hp s1 e1 hv⟩
noncomputable def zdJ(K:W.Frag):Sp:=λvs H Q _=>∃(a b:Addr) (e:Edge) (row:List Nat),vs=[.ref a,.ref b]/\H a=some (.tup (edgeT e))/\e.w<4/\SqT K H b (rowV row)/\row.length<=500/\(∀s,some s∈deeds e.w row->s<8) /\
 ∀p H' ws,H p=none->Same H H'->H' p=some (.lst ws)->VR ws (wby e (deeds e.w row)) wR H'->Q (.ref p) H'
theorem zfl (g_walk_by:Fn P w K mg base 3 "walk_by" ["begin","deeds"] (zhq K)) (g_deeds_along:Fn P w K mg base 2 "deeds_along" ["begin_way","row"] (ziM K)) (d:Df K mg "walk_along" zcj ["begin","row"]):FnOk P w K mg base CX0 4 d.f d.fd ["begin","row"] (zdJ K):=by
 refine d.F.ok ze9 (λvs H Q E h=>?_) (λcdv A outer s H vs Q E hr h=>?_)
 .obtain⟨a,b,e,row,rfl,_⟩:=h;rfl
 .obtain⟨a,b,e,row,rfl,ha,hw,hq,hlen,h8,k⟩:=h;refine⟨_,(zaf (zaj (pC g_walk_by hr (pa_N (pv 0) (zag (pC g_deeds_along hr (zag (pe_ix zat (pv 0) zab (λ_ _=>rfl)) (pa_N (pv 1) zad))) zad))))),?_⟩;refine⟨_,rfl,_,rfl,a,_,_,_,rfl,rfl,SqT.of ha,zai (j:=2) rfl,_,rfl,e.w,b,row,rfl,hw,hq,hlen,λp H1 hp s1 e1=>?_⟩
  have hd:(deeds e.w row).length<=3000:=by
   unfold deeds;have:=zed row e.w
   have:zaQ e.w row<=4:=by
    unfold zaQ;split
    .decide
    .exact A7 (Bj _ (by decide))
   simp only[Af,AK];lia
  exact⟨a,p,e,_,rfl,s1 _ _ ha,hw,e1,h8,hd,λq H2 ws hq2 s2 e2 hv=>k q H2 ws (s1.free hq2) (s1.trans s2) e2 hv⟩
noncomputable def sR(q:Cell×Bool)(v:V)(H:Hp):Prop:=∃A b,v=.ref A/\H A=some (.tup [.ref b,.bl q.2])/\H b=some (.tup (cellT q.1))
theorem sR.kt{q:Cell×Bool}{v:V}{H H':Hp}(h:sR q v H)(s:KT H H'):sR q v H':=let ⟨A,b,e,q1,q2⟩:=h;⟨A,b,e,s _ _ q1,s _ _ q2⟩
theorem zlG{e:Edge}{o:Option Nat}(h:e.w<4):(edgeB e o).w<4:=by
 cases o with
 |none=>exact Bj _ (by decide)
 |some s =>
  show (if s % 2=1 then (⟨go e.c s,(e.w+3) % 4⟩:Edge) else ⟨go e.c s,e.w⟩).w<4
  by_cases q:s % 2=1
  .rw[if_pos q];exact Bj _ (by decide)
  .rw[if_neg q];exact h
noncomputable def seen0(e:Edge)(o:Option Nat):List (Cell×Bool):=[(e.c,true),(gap e,false),((edgeB e o).c,true),(gap (edgeB e o),false)]
noncomputable def seenL(e:Edge)(o:Option Nat):List (Cell×Bool):=(seen0 e o++if slant o=true then [] else [(go e.c ((2*e.w+7) % 8),false)])++if o=none then [(go e.c (2*e.w),false)] else []
theorem ziQ(e:Edge)(o:Option Nat):(seenL e o).length<=6:=by unfold seenL seen0;split <;> split <;> simp
noncomputable def ziH(K:W.Frag):Sp:=λvs H Q _=>∃(a:Addr) (e:Edge) (o:Option Nat),vs=[.ref a,sv o]/\H a=some (.tup (edgeT e))/\e.w<4/\(∀s,o=some s->s<8) /\
 ∀p H' ss,H p=none->Same H H'->H' p=some (.lst ss)->VR ss (seenL e o) sR H'->Q (.ref p) H'
theorem zdv (g_edge_behind:Fn P w K mg base 2 "edge_behind" ["edge", "step"] (zdM K)) (g_gap_beside:Fn P w K mg base 2 "gap_beside" ["edge"] (spGap K)) (g_is_slant:Fn P w K mg base 1 "is_slant" ["step"] zcU)
  (g_gone:Fn P w K mg base 1 "gone" ["x","y","step"] zf5) (g_slant_step:Fn P w K mg base 1 "slant_step" ["way"] zgS) (g_straight_step:Fn P w K mg base 1 "straight_step" ["way"] zc9)
  (d:Df K mg "seen_between" zbQ ["edge","step"]):FnOk P w K mg base CX0 3 d.f d.fd ["edge","step"] (ziH K):=by
 refine d.F.ok zaR (λvs H Q E h=>?_) (λcdv A outer s H vs Q E hr h=>?_)
 .obtain⟨a,e,o,rfl,_⟩:=h;rfl
 .obtain⟨a,e,o,rfl,ha,hw,ho,k⟩:=h
  refine⟨_,(zac (zbw (pv 0) (zbl (by rfl) (zah (nG 2 zaR.nd) (zah (nG 3 zaR.nd) (zah (nG 4 zaR.nd) zaG)))))
   (zac (sE 5 zaR.nd (pC g_edge_behind hr (pa_N (pv 0) (pa_N (pv 1) zad))))
   (zac (sE 6 zaR.nd (zaX (pa_T (zav (pa_T (zav (pa_N (pv 2) (pa_N (pv 3) zad))) (pa_C pe_bl zad))) (pa_T (zav (zag (pC g_gap_beside hr (pa_N (pv 0) zad)) (pa_C pe_bl zad))) (pa_T (zav (zag (zcv zgU (pv 5) zdW (zcJ zab)) (pa_C pe_bl zad))) (pa_T (zav (zag (pC g_gap_beside hr (pa_N (pv 5) zad)) (pa_C pe_bl zad))) zad))))))
   (zac (ps_if (zcV (zco (pC g_is_slant hr (pa_N (pv 1) zad))))
   (zaf (za8 (pe_bm AT AY AZ zaP (pv 6) (pa_T (zav (zag (pC g_gone hr (pa_N (pv 2) (pa_N (pv 3) (zag (pC g_slant_step hr (pa_N (pv 4) zad)) zad)))) (pa_C pe_bl zad))) zad))))
   zas)
   (zac (ps_if (zao zge (pv 1) zbm (zan _))
   (zaf (za8 (pe_bm AT AY AZ zaP (pv 6) (pa_T (zav (zag (pC g_gone hr (pa_N (pv 2) (pa_N (pv 3) (zag (pC g_straight_step hr (pa_N (pv 4) zad)) zad)))) (pa_C pe_bl zad))) zad))))
   zas)
   (zaf (zaj (pv 6)))))))),?_⟩
  have hN:(edgeB e o).w<4:=zlG hw;refine⟨_,rfl,a,_,rfl,SqT.of ha,rfl,_,_,rfl,_,_,rfl,_,_,rfl,rfl,?_⟩;refine⟨_,rfl,_,rfl,a,e,o,rfl,SqT.of ha,hw,ho,λp1 H1 hp1 s1 e1=>?_⟩;change H1 p1=some (.tup (edgeT (edgeB e o))) at e1;refine⟨_,rfl,_,rfl,two,λt1 ht1=>⟨two,λt2 ht2=>?_⟩⟩;have s2:Same H1 (upd (upd H1 t1 (.tup [.int e.c.1,.int e.c.2])) t2 (.tup [.ref t1,.bl true])):=(Same.up ht1).trans (Same.up ht2);have r1:sR (e.c,true) (.ref t2) (upd (upd H1 t1 (.tup [.int e.c.1,.int e.c.2])) t2 (.tup [.ref t1,.bl true])):=⟨t2,t1,rfl,zaa,by rw[zam (λz=>by subst z;rw[zaa]at ht2;cases ht2),zaa];rfl⟩;generalize upd (upd H1 t1 (.tup [.int e.c.1,.int e.c.2])) t2 (.tup [.ref t1,.bl true])=H2 at s2 r1;refine⟨_,rfl,a,e,rfl,SqT.of ((s1.trans s2) _ _ ha),hw,λp3 H3 hp3 s3 e3=>⟨two,λt3 ht3=>?_⟩⟩;have s4:Same H3 (upd H3 t3 (.tup [.ref p3,.bl false])):=Same.up ht3;have r2:sR (gap e,false) (.ref t3) (upd H3 t3 (.tup [.ref p3,.bl false])):=⟨t3,p3,rfl,zaa,s4 _ _ e3⟩;generalize upd H3 t3 (.tup [.ref p3,.bl false])=H4 at s4 r2;have s14:=s2.trans (s3.trans s4);have e14:=s14 _ _ e1;have hs1:HT.sIx 3 3 (some 2)=2:=by decide
  refine⟨_,rfl,_,rfl,p1,_,rfl,SqT.of e14,λhx=>absurd (show (3:Nat)=2 from hx.2.symm.trans hs1) (by decide),λ_ t5 ht5=>⟨two,λt6 ht6=>?_⟩⟩;have ec:cutV (edgeT (edgeB e o)) none (some 2)=cellT (edgeB e o).c:=rfl;have s6:Same H4 (upd (upd H4 t5 (.tup (cutV (edgeT (edgeB e o)) none (some 2)))) t6 (.tup [.ref t5,.bl true])):=(Same.up ht5).trans (Same.up ht6);have r3:sR ((edgeB e o).c,true) (.ref t6) (upd (upd H4 t5 (.tup (cutV (edgeT (edgeB e o)) none (some 2)))) t6 (.tup [.ref t5,.bl true])):=⟨t6,t5,rfl,zaa,by rw[zam (λz=>by subst z;rw[zaa]at ht6;cases ht6),zaa,ec]⟩;generalize upd (upd H4 t5 (.tup (cutV (edgeT (edgeB e o)) none (some 2)))) t6 (.tup [.ref t5,.bl true])=H6 at s6 r3;refine⟨_,rfl,p1,edgeB e o,rfl,SqT.of (s6 _ _ e14),hN,λp7 H7 hp7 s7 e7=>⟨two,λt7 ht7=>?_⟩⟩;have s8:Same H7 (upd H7 t7 (.tup [.ref p7,.bl false])):=Same.up ht7;have r4:sR (gap (edgeB e o),false) (.ref t7) (upd H7 t7 (.tup [.ref p7,.bl false])):=⟨t7,p7,rfl,zaa,s8 _ _ e7⟩;generalize upd H7 t7 (.tup [.ref p7,.bl false])=H8 at s8 r4;refine⟨(by show 4<=sizeLine;decide),λl hl=>?_⟩;have s48:=s6.trans (s7.trans s8);have s28:=s3.trans (s4.trans s48);have s08:=s1.trans (s2.trans s28);have kl:KT H8 (upd H8 l (.lst [.ref t2,.ref t3,.ref t6,.ref t7])):=KT.up hl;have sl:Same H (upd H8 l (.lst [.ref t2,.ref t3,.ref t6,.ref t7])):=s08.trans (Same.up hl);have el:upd H8 l (.lst [.ref t2,.ref t3,.ref t6,.ref t7]) l=some (.lst [.ref t2,.ref t3,.ref t6,.ref t7]):=zaa;have hl0:H l=none:=s08.free hl
  have hv:VR [.ref t2,.ref t3,.ref t6,.ref t7] [(e.c,true),(gap e,false),((edgeB e o).c,true),(gap (edgeB e o),false)] sR (upd H8 l (.lst [.ref t2,.ref t3,.ref t6,.ref t7])) :=
   VR.cons.mpr ⟨(r1.kt (KT.of s28)).kt kl,VR.cons.mpr ⟨(r2.kt (KT.of s48)).kt kl,VR.cons.mpr ⟨(r3.kt (KT.of (s7.trans s8))).kt kl,VR.cons.mpr ⟨r4.kt kl,VR.nil⟩⟩⟩⟩
  generalize upd H8 l (.lst [.ref t2,.ref t3,.ref t6,.ref t7])=H9 at kl sl el hv;rcases o with _ |z
  rotate_left
  by_cases hz:slant (some z)=true
  .refine⟨_,rfl,some z,rfl,_,rfl,?_⟩;rw[hz];refine iteF ?_
   refine⟨_,rfl,rfl,_,rfl,iteF ?_⟩;refine⟨_,rfl,k l H9 _ hl0 sl el ?_⟩;unfold seenL;rw[if_pos hz,if_neg (λq=>nomatch q),AH,AH];exact hv
  .have hz:=Bool.eq_false_iff.mpr hz;refine⟨_,rfl,some z,rfl,_,rfl,?_⟩;rw[hz];refine iteT ?_
   refine⟨_,rfl,.inl ⟨rfl,_,SqL.of el⟩,_,rfl,_,rfl,_,rfl,e.w,rfl,hw,e.c,(2*e.w+7) % 8,rfl,Bj _ (by decide),λp10 H10 hp10 s10 e10=>⟨two,λt11 ht11=>?_⟩⟩;have s11:Same H10 (upd H10 t11 (.tup [.ref p10,.bl false])):=Same.up ht11;have r5:sR (go e.c ((2*e.w+7) % 8),false) (.ref t11) (upd H10 t11 (.tup [.ref p10,.bl false])):=⟨t11,p10,rfl,zaa,s11 _ _ e10⟩;generalize upd H10 t11 (.tup [.ref p10,.bl false])=H11 at s11 r5;have el11:=(s10.trans s11) _ _ el;refine⟨l,_,_,rfl,rfl,el11,zbp (by show 4<=5000;decide),?_⟩;have kt12:KT H11 (upd H11 l (.lst ([.ref t2,.ref t3,.ref t6,.ref t7]++[.ref t11]))):=KT.lst el11;have s12:Same H (upd H11 l (.lst ([.ref t2,.ref t3,.ref t6,.ref t7]++[.ref t11]))):=zar hl0 (sl.trans (s10.trans s11));have e12:upd H11 l (.lst ([.ref t2,.ref t3,.ref t6,.ref t7]++[.ref t11])) l=some (.lst ([.ref t2,.ref t3,.ref t6,.ref t7]++[.ref t11])):=zaa;have hv12:=hv.snoc (λx v h=>(h.kt (KT.of (s10.trans s11))).kt kt12) (r5.kt kt12);generalize upd H11 l (.lst ([.ref t2,.ref t3,.ref t6,.ref t7]++[.ref t11]))=H12 at kt12 s12 e12 hv12;refine⟨_,rfl,rfl,_,rfl,iteF ?_⟩;refine⟨_,rfl,k l H12 _ hl0 s12 e12 ?_⟩;unfold seenL;rw[if_neg (by rw[hz];decide),if_neg (λq=>nomatch q),AH];exact hv12
  .refine⟨_,rfl,none,rfl,_,rfl,iteT ?_⟩;refine⟨_,rfl,.inl ⟨rfl,_,SqL.of el⟩,_,rfl,_,rfl,_,rfl,e.w,rfl,hw,e.c,(2*e.w+7) % 8,rfl,Bj _ (by decide),λp10 H10 hp10 s10 e10=>⟨two,λt11 ht11=>?_⟩⟩;have s11:Same H10 (upd H10 t11 (.tup [.ref p10,.bl false])):=Same.up ht11;have r5:sR (go e.c ((2*e.w+7) % 8),false) (.ref t11) (upd H10 t11 (.tup [.ref p10,.bl false])):=⟨t11,p10,rfl,zaa,s11 _ _ e10⟩;generalize upd H10 t11 (.tup [.ref p10,.bl false])=H11 at s11 r5;have el11:=(s10.trans s11) _ _ el;refine⟨l,_,_,rfl,rfl,el11,zbp (by show 4<=5000;decide),?_⟩;have kt12:KT H11 (upd H11 l (.lst ([.ref t2,.ref t3,.ref t6,.ref t7]++[.ref t11]))):=KT.lst el11;have s12:Same H (upd H11 l (.lst ([.ref t2,.ref t3,.ref t6,.ref t7]++[.ref t11]))):=zar hl0 (sl.trans (s10.trans s11));have e12:upd H11 l (.lst ([.ref t2,.ref t3,.ref t6,.ref t7]++[.ref t11])) l=some (.lst ([.ref t2,.ref t3,.ref t6,.ref t7]++[.ref t11])):=zaa;have hv12:=hv.snoc (λx v h=>(h.kt (KT.of (s10.trans s11))).kt kt12) (r5.kt kt12);generalize upd H11 l (.lst ([.ref t2,.ref t3,.ref t6,.ref t7]++[.ref t11]))=H12 at kt12 s12 e12 hv12;refine⟨_,rfl,rfl,_,rfl,iteT ?_⟩;refine⟨_,rfl,.inl ⟨rfl,_,SqL.of e12⟩,_,rfl,_,rfl,_,rfl,e.w,rfl,hw,e.c,2*e.w,rfl,by lia,λp13 H13 hp13 s13 e13=>⟨two,λt14 ht14=>?_⟩⟩;have s14':Same H13 (upd H13 t14 (.tup [.ref p13,.bl false])):=Same.up ht14;have r6:sR (go e.c (2*e.w),false) (.ref t14) (upd H13 t14 (.tup [.ref p13,.bl false])):=⟨t14,p13,rfl,zaa,s14' _ _ e13⟩;generalize upd H13 t14 (.tup [.ref p13,.bl false])=H14 at s14' r6;have e14':=(s13.trans s14') _ _ e12;refine⟨l,_,_,rfl,rfl,e14',zbp (by show 5<=5000;decide),?_⟩;have kt15:KT H14 (upd H14 l (.lst (([.ref t2,.ref t3,.ref t6,.ref t7]++[.ref t11])++[.ref t14]))):=KT.lst e14';have s15:Same H (upd H14 l (.lst (([.ref t2,.ref t3,.ref t6,.ref t7]++[.ref t11])++[.ref t14]))):=zar hl0 (s12.trans (s13.trans s14'));have e15:upd H14 l (.lst (([.ref t2,.ref t3,.ref t6,.ref t7]++[.ref t11])++[.ref t14])) l=some (.lst (([.ref t2,.ref t3,.ref t6,.ref t7]++[.ref t11])++[.ref t14])):=zaa;have hv15:=hv12.snoc (λx v h=>(h.kt (KT.of (s13.trans s14'))).kt kt15) (r6.kt kt15);refine⟨_,rfl,k l _ _ hl0 s15 e15 ?_⟩;unfold seenL;rw[if_neg (by decide),if_pos rfl];exact hv15
noncomputable def obs(W:Wk):List (Cell×Bool):=W.flatMap λq=>seenL q.1 q.2
noncomputable def Con(L:List (Cell×Bool)):Prop:=∃c,(c,true)∈L/\(c,false)∈L
noncomputable def nSt(W:Wk):Nat:=(W.filterMap (·.2)).length
theorem zhG{W:Wk}{i:Nat}{q:Edge×Option Nat}(h:W[i]?=some q):obs (W.take (i+1))=obs (W.take i)++seenL q.1 q.2:=by rw[zaC h];unfold obs;rw[List.flatMap_append];simp
theorem zkc{W:Wk}{i:Nat}{q:Edge×Option Nat}(h:W[i]?=some q):nSt (W.take (i+1))=nSt (W.take i)+if q.2.isSome then 1 else 0:=by
 rw[zaC h];unfold nSt;rw[BS,Af]
 cases hq:q.2 <;> simp[hq]
theorem Con.mono{L M:List (Cell×Bool)}(h:Con L)(s:∀q∈L,q∈M):Con M:=let ⟨c,a,b⟩:=h;⟨c,s _ a,s _ b⟩
noncomputable def Kn(kvs:List (List Key×V))(L:List (Cell×Bool)):Prop:=∀c v,valV kvs (kC c)=some v ↔ ∃b,v=.bl b/\(c,b)∈L
noncomputable def zel(W:Wk):Prop:=∀q∈W,q.1.w<4/\∀s,q.2=some s->s<8
noncomputable def ziL(K:W.Frag):Sp:=λvs H Q _=>∃(a:Addr) (W:Wk),vs=[.ref a]/\LR K H a W wR/\zel W/\W.length<=2000 /\
 (∀(i:Nat) H',i<W.length->Con (obs (W.take (i+1)))->¬ Con (obs (W.take i))->Same H H'->Q (.int ((nSt (W.take i):Nat):Int)) H')/\(∀H',¬ Con (obs W)->Same H H'->Q .non H')
theorem zd4 (g_seen_between:Fn P w K mg base 3 "seen_between" ["edge","step"] (ziH K)) (d:Df K mg "gainsaid_at" zb5 ["walk"]):FnOk P w K mg base CX0 4 d.f d.fd ["walk"] (ziL K):=by
 refine d.F.ok zaI (λvs H Q E h=>?_) (λcdv A outer s H vs Q E hr h=>?_)
 .obtain⟨a,W,rfl,_⟩:=h;rfl
 .obtain⟨a,W,rfl,hLR,hok,hlen,kc,kn⟩:=h;have hu1:=hu_of hr
  refine⟨_,(zac (sE 1 zaI.nd zfi)
   (zac (sE 2 zaI.nd zab)
   (zac (zbI Bd rfl (zaS (pv 0)) (zbl (by rfl) (zah (nG 3 zaI.nd) (zah (nG 4 zaI.nd) zaG)))
   (zac (zbI Bd rfl (zaS (pC g_seen_between hr (pa_N (pv 3) (pa_N (pv 4) zad)))) (zbl (by rfl) (zah (nG 5 zaI.nd) (zah (nG 6 zaI.nd) zaG)))
   (zaf (ps_if (zao op_ne (zj9 hu1 (pv 1) (pv 5) (pv 6) ⟨rfl,rfl,rfl,rfl⟩) (pv 6) (zan _))
   (zaf (zaj (pv 2)))
   zas)))
   (zaf (ps_if (zao zdf (pv 4) zbm (zan _))
   (zaf (zl6 (i:=2) zaI.nd (by rfl) (Or.inl rfl) zab zmm))
   zas))))
   (zaf (zaj zbm))))),?_⟩
  obtain⟨ws,hq,hv⟩:=hLR.vr;have hwl:ws.length=W.length:=hv.1;refine λdd hdd=>?_
  have s0:Same H (upd H dd (.dT [])):=Same.up hdd;have d0:upd H dd (.dT []) dd=some (.dT []):=zaa;generalize upd H dd (.dT [])=H0 at s0 d0;refine⟨_,rfl,a,rfl,⟨_,s0.seq hq⟩,?_⟩
  refine zaH (K:=K) (a:=a) (xs:=ws) (λi σ H1=>∃(o3 o4 o5 o6:Option V) (kvs:List (List Key×V)),σ=[some (.ref a),some (.ref dd),some (.int ((nSt (W.take i):Nat):Int)),o3,o4,o5,o6]/\Same H H1/\H1 dd=some (.dT kvs)/\Kn kvs (obs (W.take i))/\¬ Con (obs (W.take i))/\kvs.length<=6*i)
   ⟨_,_,_,_,[],rfl,s0,d0,(λc v=>⟨(λh=>by cases h),(λ⟨_,_,h⟩=>by cases h)⟩),(λ⟨_,h,_⟩=>by cases h),Be _⟩ (λi σ H1 _ ⟨_,_,_,_,_,_,s1,_⟩=>s1.seq hq) ?_ ?_
  .rintro i v σ H1 hi ⟨o3,o4,o5,o6,kvs,rfl,s1,d1,hk,hnc,hkl⟩;obtain⟨⟨e,st⟩,he,B,b,rfl,q1,q2⟩:=hv.at hi;have hi':i<W.length:=by rw[<- hwl];exact (Ac.mp hi).1
   have hEe:=hok _ (As he);refine⟨B,_,rfl,SqT.of (s1 _ _ q1),rfl,_,_,rfl,_,_,rfl,rfl,?_⟩;refine⟨_,rfl,_,rfl,b,e,st,rfl,s1 _ _ q2,hEe.1,hEe.2,λp H2 ss hp s2 e2 hs2=>?_⟩;have hpd:p≠dd:=λz=>by subst z;rw[d1]at hp;cases hp
   have d2:=s2 _ _ d1;have hL6:=ziQ e st;refine⟨p,rfl,⟨_,SqL.of e2⟩,?_⟩
   refine zaH (K:=K) (a:=p) (xs:=ss) (λj σ H3=>∃(o5 o6:Option V) (kv3:List (List Key×V)),σ=[some (.ref a),some (.ref dd),some (.int ((nSt (W.take i):Nat):Int)),some (.ref b),some (sv st),o5,o6]/\(∀z o,z≠dd->H2 z=some o->H3 z=some o)/\H3 dd=some (.dT kv3)/\Kn kv3 (obs (W.take i)++(seenL e st).take j)/\¬ Con (obs (W.take i)++(seenL e st).take j)/\kv3.length<=6*i+j)
    ⟨_,_,kvs,rfl,(λz o _ h=>h),d2,by rw[Cv,AH];exact hk,by rw[Cv,AH];exact hnc,by lia⟩ (λj σ H3 _ ⟨_,_,_,_,k3,_⟩=>SqL.of (k3 _ _ hpd e2)) ?_ ?_
   .rintro j u σ H3 hj ⟨o5,o6,kv3,rfl,k3,d3,hk3,hn3,hl3⟩;obtain⟨⟨c,t⟩,hq',A2,b2,rfl,r1,r2⟩:=hs2.at hj;have hjl:j<(seenL e st).length:=by rw[<- hs2.1];exact (Ac.mp hj).1
    have nA:A2≠dd:=ne_of r1 d2 (λz=>nomatch z);have nb:b2≠dd:=ne_of r2 d2 (λz=>nomatch z);have hsn:(seenL e st).take (j+1)=(seenL e st).take j++[(c,t)]:=zaC hq';have hob:obs (W.take (i+1))=obs (W.take i)++seenL e st:=zhG he;rw[hsn,<- AC];refine⟨A2,_,rfl,SqT.of (k3 _ _ nA r1),rfl,_,_,rfl,_,_,rfl,rfl,?_⟩;refine⟨_,rfl,dd,rfl,.inr ⟨_,Rd.of d3⟩,_,rfl,_,rfl,kv3,kC c,b2,d3,rfl,k3 _ _ nb r2,Bt (show kv3.length<=12010 by lia) (by decide),λv hv'=>?_,λhn=>?_⟩
    .obtain⟨bb,rfl,hm⟩:=(hk3 c v).mp hv'
     by_cases hbt:bb=t
     .subst hbt;refine⟨_,rfl,rfl,_,rfl,iteN (by simp) ?_⟩
      have hm':∀q,q∈(obs (W.take i)++(seenL e st).take j)++[(c,bb)] ↔ q∈obs (W.take i)++(seenL e st).take j:=λq=>by rw[Aj,Ah];exact⟨λh=>h.elim id λh=>h ▸ hm,.inl⟩
      exact⟨_,_,kv3,rfl,k3,d3,λc' v'=>by rw[hk3 c' v'];simp only[hm'],λhc=>hn3 (hc.mono λq=>(hm' q).mp),by lia⟩
     .refine⟨_,rfl,rfl,_,rfl,iteY (by simp[hbt]) ?_⟩;have s3:Same H H3:=λz o h=>k3 z o (zal h hdd) (s2 _ _ (s1 _ _ h))
      refine⟨_,rfl,kc i H3 hi' ?_ hnc s3⟩;rw[hob]
      have m1:(c,bb)∈obs (W.take i)++seenL e st:=by
       rcases Aj.mp hm with m |m
       .exact Bg _ m
       .exact Ak _ (BB m)
      have m2:(c,t)∈obs (W.take i)++seenL e st:=Ak _ (As hq')
      cases bb <;> cases t
      .exact absurd rfl hbt
      .exact⟨c,m2,m1⟩
      .exact⟨c,m1,m2⟩
      .exact absurd rfl hbt
    .refine⟨_,rfl,rfl,_,rfl,iteN (by simp) ?_⟩
     have hno:∀bb,(c,bb) ∉ obs (W.take i)++(seenL e st).take j:=λbb hm=>by
      rw[(hk3 c (.bl bb)).mpr ⟨bb,rfl,hm⟩]at hn
      cases hn
     refine⟨_,_,putK kv3 (kC c) (.bl t),rfl,(λz o hz h=>by rw[zam hz];exact k3 z o hz h),zaa,(λc' v'=>?_),(λ⟨c',h1,h2⟩=>?_),Bf (zaV _ _ _) (by lia)⟩
     .rw[zdx]
      by_cases ec:c'=c
      .subst ec;rw[if_pos rfl];constructor
       .intro h;cases h;exact⟨t,rfl,Ak _ (by simp)⟩
       .rintro⟨bb,rfl,hm⟩;rcases Aj.mp hm with m |m
        .exact absurd m (hno bb)
        .rw[Ah]at m;cases m;rfl
      .rw[if_neg (λz=>ec (zgy.mp z)),hk3 c' v'];constructor
       .rintro⟨bb,rfl,hm⟩;exact⟨bb,rfl,Bg _ hm⟩
       .rintro⟨bb,rfl,hm⟩;rcases Aj.mp hm with m |m
        .exact⟨bb,rfl,m⟩
        .rw[Ah]at m;cases m;exact absurd rfl ec
     .rcases Aj.mp h1 with m |m <;> rcases Aj.mp h2 with m' |m'
      .exact hn3 ⟨c',m,m'⟩
      .rw[Ah]at m';cases m';exact hno _ m
      .rw[Ah]at m;cases m;exact hno _ m'
      .rw[Ah]at m m';cases m;cases m'
   .rintro σ H3 ⟨o5,o6,kv3,rfl,k3,d3,hk3,hn3,hl3⟩;have s3:Same H H3:=λz o h=>k3 z o (zal h hdd) (s2 _ _ (s1 _ _ h))
    have hsl:=hs2.1;have hl4:kv3.length<=6*(i+1):=by lia
    have hob:obs (W.take (i+1))=obs (W.take i)++(seenL e st).take ss.length:=by rw[hsl,AL];exact zhG he
    rw[<- hob]at hk3 hn3;have hns:=zkc he
    cases st with
    |none =>
     refine⟨_,rfl,rfl,_,rfl,iteF ?_⟩;have hns':nSt (W.take (i+1))=nSt (W.take i):=hns;exact⟨_,_,_,_,kv3,by rw[hns'],s3,d3,hk3,hn3,hl4⟩
    |some z =>
     refine⟨_,rfl,rfl,_,rfl,iteT ?_⟩;refine⟨_,rfl,_,_,rfl,rfl,?_⟩;have hns':nSt (W.take (i+1))=nSt (W.take i)+1:=hns;exact⟨_,_,_,_,kv3,by rw[hns'];rfl,s3,d3,hk3,hn3,hl4⟩
  .rintro σ H1 ⟨o3,o4,o5,o6,kvs,rfl,s1,d1,hk,hnc,hkl⟩;rw[hwl,AL]at hnc;exact kn H1 hnc s1
theorem zfO{α:Type}{xs:List α}(h:0<xs.length):atI xs (-1)=xs[xs.length-1]?:=by unfold atI ixN;rw[if_neg (by decide),if_pos (by lia)];show xs[((-1:Int)+xs.length).toNat]?=_;rw[show ((-1:Int)+xs.length).toNat=xs.length-1 by lia]
theorem zgQ(s:Nat):wayB s<4:=Bj _ (by decide)
theorem zjH(w:Nat)(row:List Nat):(deeds w row).length<=4*row.length+4:=by
 unfold deeds zaQ;rw[Af,AK];have:=zed row w;split
 .lia
 .have:(w+4-(dgo w row).2) % 4<4:=Bj _ (by decide);lia
theorem zhV:∀(row:List Nat) (w s:Nat),some s∈(dgo w row).1->s∈row
 |[],_,_,h=>by cases h
 |t::r,w,s,h=>by
  have h:some s∈Ae ((zak t+4-w) % 4) none++some t::(dgo (wayB t) r).1:=h;rcases Aj.mp h with m |m
  .have:=(List.mem_replicate.mp m).2;cases this
  .rcases Av.mp m with m |m
   .cases m;exact .head _
   .exact .tail _ (zhV r _ s m)
theorem ziq{w s:Nat}{row:List Nat}(h:some s∈deeds w row):s∈row:=by
 unfold deeds at h;rcases Aj.mp h with m |m
 .exact zhV row w s m
 .have:=(List.mem_replicate.mp m).2;cases this
theorem zc4(w:Nat)(row:List Nat):0<(deeds w row).length:=by
 cases row with
 |nil=>show 0<(Ae 4 (none:Option Nat)).length;decide
 |cons s r =>
  unfold deeds;show 0<((Ae ((zak s+4-w) % 4) none++some s::(dgo (wayB s) r).1)++_).length;simp only[Af,AS];lia
theorem zkA:∀(l:List (Option Nat)){e:Edge},e.w<4->(∀s,some s∈l->s<8)->zel (wby e l)
 |[],_,_,_=>λ_ h=>by cases h
 |d::l,e,he,hl=>λq h=>by
  rcases Av.mp h with rfl |h
  .exact⟨he,λs hs=>hl s (by rw[<- hs];exact .head _)⟩
  .exact zkA l (zfI he) (λs hs=>hl s (.tail _ hs)) q h
theorem zhj:∀(l:List (Option Nat)) (e:Edge),0<l.length->∃d,(wby e l)[0]?=some (e,d)
 |[],_,h=>absurd h (by simp)
 |d::l,e,_=>⟨d,rfl⟩
theorem vint(a b:Int):decide (V.int a=V.int b)=decide (a=b):=decide_eq_decide.mpr ⟨V.int.inj,congrArg V.int⟩
noncomputable def moreL (s:Str):Int:=if s = "rim" then 4 else -4
noncomputable def zht(K:W.Frag):Sp:=λvs H Q _=>∃(a:Addr) (W:Wk) (f l:Edge×Option Nat),vs=[.ref a]/\LR K H a W wR/\zel W/\W[0]?=some f/\W[W.length-1]?=some l/\∀H',Same H H'->Q (.bl (decide (eI (edgeB l.1 l.2)=eI f.1))) H'
theorem zez (g_edge_behind:Fn P w K mg base 2 "edge_behind" ["edge","step"] (zdM K)) (d:Df K mg "comes_back" zcm ["walk"]):FnOk P w K mg base CX0 3 d.f d.fd ["walk"] (zht K):=by
 refine d.F.ok zb1 (λvs H Q E h=>?_) (λcdv A outer s H vs Q E hr h=>?_)
 .obtain⟨a,W,f,l,rfl,_⟩:=h;rfl
 .obtain⟨a,W,f,l,rfl,hLR,hok,hf,hl,k⟩:=h;have hu64:=hr.units
  refine⟨_,(zac (zbw (pe_ix zaE (pv 0) (pe_un zeK zab) (λ_ _=>rfl)) (zbl (by rfl) (zah (nG 1 zb1.nd) (zah (nG 2 zb1.nd) zaG))))
   (zaf (zaj (zaT (zgf hu64) (pC g_edge_behind hr (pa_N (pv 1) (pa_N (pv 2) zad))) (pe_ix zat (pe_ix zaE (pv 0) zab (λ_ _=>rfl)) zab (λ_ _=>rfl)) (zan _))))),?_⟩
  obtain⟨ws,hq,hv⟩:=hLR.vr;have hwl:ws.length=W.length:=hv.1;have hp:0<W.length:=(Ac.mp hf).1;obtain⟨v1,hv1⟩:∃v,ws[ws.length-1]?=some v:=⟨_,Aa (by lia)⟩;obtain⟨⟨e1,st1⟩,he1,B1,b1,rfl,q1,q2⟩:=hv.at hv1;obtain⟨v0,hv0⟩:∃v,ws[0]?=some v:=⟨_,Aa (by lia)⟩;obtain⟨⟨e0,st0⟩,he0,B0,b0,rfl,r1,r2⟩:=hv.at hv0;rw[hwl,hl]at he1
  cases he1
  rw[hf]at he0
  cases he0
  have hEl:=hok _ (As hl);refine⟨_,rfl,_,rfl,a,ws,_,_,rfl,rfl,hq,(zfO (by lia)).trans hv1,?_⟩;refine⟨B1,_,rfl,SqT.of q1,rfl,_,_,rfl,_,_,rfl,rfl,?_⟩;refine⟨_,rfl,_,rfl,b1,e1,st1,rfl,SqT.of q2,hEl.1,hEl.2,λp H1 hp1 s1 f1=>?_⟩;refine⟨_,rfl,a,ws,_,_,rfl,rfl,s1.seq hq,(zai (j:=0) hv0),B0,_,_,_,rfl,rfl,SqT.of (s1 _ _ r1),zai (j:=0) rfl,?_⟩;refine⟨_,_,zdc f1,zdc (s1 _ _ r2),zaD _,zaD _,?_⟩;rw[zcC];exact k H1 s1
noncomputable def zdL (K:W.Frag):Sp:=λvs H Q _=>∃(a:Addr) (W:Wk) (f l:Edge×Option Nat) (so:Str),vs=[.ref a,.str so]/\(so = "rim" ∨ so = "hole")/\LR K H a W wR/\zel W/\W.length<=2000/\W[0]?=some f/\W[W.length-1]?=some l /\
 ∀H',Same H H'->Q (.bl (decide (eI (edgeB l.1 l.2)=eI f.1) && decide ((nL W:Int)-nS W=moreL so))) H'
theorem zfr (T:Txt P w K mg) (g_comes_back:Fn P w K mg base 3 "comes_back" ["walk"] (zht K)) (g_lefts_less_slants:Fn P w K mg base 3 "lefts_less_slants" ["walk"] (ziI K)) (d:Df K mg "is_closed" zcG ["walk","sort"]):FnOk P w K mg base CX0 4 d.f d.fd ["walk","sort"] (zdL K):=by
 refine d.F.ok zf7 (λvs H Q E h=>?_) (λcdv A outer s H vs Q E hr h=>?_)
 .obtain⟨a,W,f,l,so,rfl,_⟩:=h;rfl
 .obtain⟨a,W,f,l,so,rfl,hso,hLR,hok,hlen,hf,hl,k⟩:=h;refine⟨_,(zaf (zaj (zdZ (pC g_comes_back hr (pa_N (pv 0) zad)) (zeS (zaT op_eq (pC g_lefts_less_slants hr (pa_N (pv 0) zad)) (zl8 (by rfl) T.more (pv 1)) (zan _)))))),?_⟩;refine⟨_,rfl,a,W,f,l,rfl,hLR,hok,hf,hl,λH1 s1=>⟨_,rfl,?_⟩⟩
  by_cases hc:eI (edgeB l.1 l.2)=eI f.1
  .rw[decide_eq_true hc]at k ⊢;refine iteT ?_
   refine⟨_,rfl,a,W,rfl,hLR.same s1 (λx v h=>h.same s1),hlen,λH2 s2=>⟨_,rfl,?_⟩⟩;have kk:=k H2 (s1.trans s2);rw[Bool.true_and]at kk;rcases hso with rfl |rfl
   .exact .inl ⟨rfl,rfl,by show Q _ H2;rw[vint];exact kk⟩
   .exact .inr ⟨rfl,rfl,by show Q _ H2;rw[vint];exact kk⟩
  .rw[decide_eq_false hc]at k ⊢;exact iteF (k H1 s1)
noncomputable def endC(c:Cell)(l:List Nat):Cell:=l.foldl go c
theorem zeb(l:List Nat)(c:Cell)(s:Nat):endC c (l++[s])=go (endC c l) s:=by unfold endC;rw[List.foldl_append];rfl
theorem zfH(l m:List Nat)(c:Cell):endC c (l++m)=endC (endC c l) m:=by unfold endC;rw[List.foldl_append]
noncomputable def lefG(c:Cell):Nat->Nat->List Cell
 | 0,_=>[]
 |n+1,w=>go c (2*w)::go c ((2*w+7) % 8)::gap ⟨c,(w+1) % 4⟩::lefG c n ((w+1) % 4)
noncomputable def nLf(w s:Nat):Nat:=(zak s+4-w) % 4
noncomputable def gapG(c:Cell)(w s:Nat):List Cell:=gap ⟨c,w⟩::(lefG c (nLf w s) w++if s % 2=0 then [go c ((2*zak s+7) % 8)] else [])
noncomputable def lawG:Cell->Nat->List Nat->List Cell
 |_,_,[]=>[]
 |c,w,s::r=>gapG c w s++lawG (go c s) (wayB s) r
noncomputable def lawC:Cell->List Nat->List Cell
 |_,[]=>[]
 |c,s::r=>c::lawC (go c s) r
noncomputable def lawN:Nat->List Nat->Nat
 |_,[]=>0
 |w,s::r=>nLf w s+lawN (wayB s) r
noncomputable def nOdd(row:List Nat):Nat:=(row.filter λs=>decide (s % 2=1)).length
noncomputable def LO(c:Cell)(w:Nat)(row:List Nat):List (Cell×Bool):=(lawC c row).map (·,true)++(lawG c w row).map (·,false)
theorem zgm(w s:Nat):nLf w s<4:=Bj _ (by decide)
theorem zcM{w s:Nat}(h:w<4):(w+nLf w s) % 4=zak s:=by have:=zbY s;unfold nLf;lia
theorem zdD(s:Nat):nLf (zak s) s=0:=by have:=zbY s;unfold nLf;lia
theorem zjo{w s p:Nat}(h:w<4)(hp:p<=nLf w s):nLf ((w+p) % 4) s=nLf w s-p:=by have:=zbY s;unfold nLf at hp ⊢;lia
theorem zdj{c:Cell}{s:Nat}(h:s<8):edgeB ⟨c,zak s⟩ (some s)=⟨go c s,wayB s⟩:=by
 have:∀s,s<8->(if s % 2=1 then (zak s+3) % 4 else zak s)=wayB s:=by decide
 have e:=this s h;show (if s % 2=1 then (⟨go c s,(zak s+3) % 4⟩:Edge) else ⟨go c s,zak s⟩)=_
 by_cases q:s % 2=1
 .rw[if_pos q]at e ⊢;rw[e]
 .rw[if_neg q]at e ⊢;rw[e]
theorem zfv(e:Edge)(o:Option Nat)(l:List (Option Nat)):obs (wby e (o::l))=seenL e o++obs (wby (edgeB e o) l):=rfl
theorem zfB(c:Cell):∀(n w:Nat),w<4->gap ⟨c,(w+n) % 4⟩∈gap ⟨c,w⟩::lefG c n w
 | 0,w,h=>by rw[BU,Br h];exact .head _
 |n+1,w,h=>by
  have ih:=zfB c n ((w+1) % 4) (Bj _ (by decide));rw[show (w+1) % 4+n=(w+1) % 4+n from rfl,show ((w+1) % 4+n) % 4=(w+(n+1)) % 4 by lia]at ih;exact .tail _ (.tail _ (.tail _ ih))
theorem zd5(c:Cell)(l:List (Option Nat)):∀(n w:Nat),w<4->∀q,q∈obs (wby ⟨c,w⟩ (Ae n none++l))∨q=(c,true)∨q=(gap ⟨c,w⟩,false) ↔ q=(c,true)∨(q.2=false/\q.1∈gap ⟨c,w⟩::lefG c n w)∨q∈obs (wby ⟨c,(w+n) % 4⟩ l)
 | 0,w,h,q=>by
  rw[BU,Br h];obtain⟨a,b⟩:=q;simp only[List.replicate_zero,B7,lefG,Ah,Prod.mk.injEq];constructor
  .rintro (h |h |⟨h,k⟩)
   .exact .inr (.inr h)
   .exact .inl h
   .exact .inr (.inl ⟨k,h⟩)
  .rintro (h |⟨h,k⟩ |h)
   .exact .inr (.inl h)
   .exact .inr (.inr ⟨k,h⟩)
   .exact .inl h
 |n+1,w,h,q=>by
  have ih:=zd5 c l n ((w+1) % 4) (Bj _ (by decide)) q;rw[show ((w+1) % 4+n) % 4=(w+(n+1)) % 4 by lia]at ih;rw[BY,List.cons_append,zfv,Aj];have e1:edgeB ⟨c,w⟩ none=⟨c,(w+1) % 4⟩:=rfl;rw[e1]
  have hs:q∈seenL ⟨c,w⟩ none ↔ q=(c,true)∨q=(gap ⟨c,w⟩,false)∨q=(gap ⟨c,(w+1) % 4⟩,false)∨q=(go c ((2*w+7) % 8),false)∨q=(go c (2*w),false):=by
   unfold seenL seen0;rw[if_neg (by decide),if_pos rfl,e1];simp only[Aj,Av,Dk,or_false];constructor
   .rintro (((h |h |h |h) |h) |h)
    .exact .inl h
    .exact .inr (.inl h)
    .exact .inl h
    .exact .inr (.inr (.inl h))
    .exact .inr (.inr (.inr (.inl h)))
    .exact .inr (.inr (.inr (.inr h)))
   .rintro (h |h |h |h |h)
    .exact .inl (.inl (.inl h))
    .exact .inl (.inl (.inr (.inl h)))
    .exact .inl (.inl (.inr (.inr (.inr h))))
    .exact .inl (.inr h)
    .exact .inr h
  rw[hs];obtain⟨a,b⟩:=q;simp only[lefG,Av,Prod.mk.injEq]at ih ⊢;constructor
  .rintro ((h |h) |h |h)
   .rcases h with h |h |h |h |h
    .exact .inl h
    .exact .inr (.inl ⟨h.2,.inl h.1⟩)
    .exact .inr (.inl ⟨h.2,.inr (.inr (.inr (.inl h.1)))⟩)
    .exact .inr (.inl ⟨h.2,.inr (.inr (.inl h.1))⟩)
    .exact .inr (.inl ⟨h.2,.inr (.inl h.1)⟩)
   .rcases ih.mp (.inl h) with k |⟨k1,k2⟩ |k
    .exact .inl k
    .exact .inr (.inl ⟨k1,.inr (.inr (.inr k2))⟩)
    .exact .inr (.inr k)
   .exact .inl h
   .exact .inr (.inl ⟨h.2,.inl h.1⟩)
  .rintro (h |⟨h,k⟩ |h)
   .exact .inr (.inl h)
   .rcases k with k |k |k |k
    .exact .inr (.inr ⟨k,h⟩)
    .exact .inl (.inl (.inr (.inr (.inr (.inr ⟨k,h⟩)))))
    .exact .inl (.inl (.inr (.inr (.inr (.inl ⟨k,h⟩)))))
    .rcases ih.mpr (.inr (.inl ⟨h,k⟩)) with z |z |z
     .exact .inl (.inr z)
     .exact .inr (.inl z)
     .exact .inl (.inl (.inr (.inr (.inl z))))
   .rcases ih.mpr (.inr (.inr h)) with z |z |z
    .exact .inl (.inr z)
    .exact .inr (.inl z)
    .exact .inl (.inl (.inr (.inr (.inl z))))
theorem zcZ{c:Cell}{w:Nat}{row:List Nat}{q:Cell×Bool}:q∈LO c w row ↔ (q.2=true/\q.1∈lawC c row)∨(q.2=false/\q.1∈lawG c w row):=by
 obtain⟨a,b⟩:=q;unfold LO;rw[Aj,List.mem_map,List.mem_map];constructor
 .rintro (⟨x,h,e⟩ |⟨x,h,e⟩) <;> cases e
  .exact .inl ⟨rfl,h⟩
  .exact .inr ⟨rfl,h⟩
 .rintro (⟨e,h⟩ |⟨e,h⟩)
  .exact .inl ⟨a,h,by rw[show b=true from e]⟩
  .exact .inr ⟨a,h,by rw[show b=false from e]⟩
theorem zjj:∀(row:List Nat) (c:Cell) (w:Nat),w<4->row≠[]->(∀s∈row,s<8)->∀q,q∈obs (wby ⟨c,w⟩ (dgo w row).1)∨q=(gap ⟨c,w⟩,false) ↔ q∈LO c w row∨q=(endC c row,true)∨q=(gap ⟨endC c row,(dgo w row).2⟩,false)
 |[],_,_,_,h,_,_=>absurd rfl h
 |s::r,c,w,hw,_,h8,q=>by
  have hs:=h8 s (.head _);have hB:=zgQ s;have e0:(dgo w (s::r)).1=Ae (nLf w s) none++some s::(dgo (wayB s) r).1:=rfl;have e2:(dgo w (s::r)).2=(dgo (wayB s) r).2:=rfl;have hl:=zd5 c (some s::(dgo (wayB s) r).1) (nLf w s) w hw q;rw[zcM hw,zfv,zdj hs,Aj]at hl
  have hsn:q∈seenL ⟨c,zak s⟩ (some s) ↔ q=(c,true)∨q=(gap ⟨c,zak s⟩,false)∨q=(go c s,true)∨q=(gap ⟨go c s,wayB s⟩,false)∨(s % 2=0/\q=(go c ((2*zak s+7) % 8),false)):=by
   unfold seenL seen0;rw[zdj hs,if_neg (c:=some s=none) (by simp),AH]
   by_cases hz:s % 2=1
   .rw[if_pos (show slant (some s)=true from decide_eq_true hz)];simp only[AH,Av,Dk,or_false];constructor
    .rintro (h |h |h |h)
     .exact .inl h
     .exact .inr (.inl h)
     .exact .inr (.inr (.inl h))
     .exact .inr (.inr (.inr (.inl h)))
    .rintro (h |h |h |h |⟨h,_⟩)
     .exact .inl h
     .exact .inr (.inl h)
     .exact .inr (.inr (.inl h))
     .exact .inr (.inr (.inr h))
     .lia
   .rw[if_neg (show ¬ slant (some s)=true from λz=>hz (of_decide_eq_true z))];simp only[Aj,Av,Dk,or_false];constructor
    .rintro ((h |h |h |h) |h)
     .exact .inl h
     .exact .inr (.inl h)
     .exact .inr (.inr (.inl h))
     .exact .inr (.inr (.inr (.inl h)))
     .exact .inr (.inr (.inr (.inr ⟨by lia,h⟩)))
    .rintro (h |h |h |h |⟨_,h⟩)
     .exact .inl (.inl h)
     .exact .inl (.inr (.inl h))
     .exact .inl (.inr (.inr (.inl h)))
     .exact .inl (.inr (.inr (.inr h)))
     .exact .inr h
  have hlast:gap ⟨c,zak s⟩∈gap ⟨c,w⟩::lefG c (nLf w s) w:=by
   have:=zfB c (nLf w s) w hw
   rwa [zcM hw]at this
  have hG:q.1∈gapG c w s ↔ q.1∈gap ⟨c,w⟩::lefG c (nLf w s) w∨(s % 2=0/\q.1=go c ((2*zak s+7) % 8)):=by
   unfold gapG;rw[Av,Aj,Av]
   by_cases hz:s % 2=0
   .rw[if_pos hz,Ah];constructor
    .rintro (h |h |h)
     .exact .inl (.inl h)
     .exact .inl (.inr h)
     .exact .inr ⟨hz,h⟩
    .rintro ((h |h) |⟨_,h⟩)
     .exact .inl h
     .exact .inr (.inl h)
     .exact .inr (.inr h)
   .rw[if_neg hz];constructor
    .rintro (h |h |h)
     .exact .inl (.inl h)
     .exact .inl (.inr h)
     .cases h
    .rintro ((h |h) |⟨h,_⟩)
     .exact .inl h
     .exact .inr (.inl h)
     .exact absurd h hz
  have hr:(q∈obs (wby ⟨go c s,wayB s⟩ (dgo (wayB s) r).1)∨q=(go c s,true)∨q=(gap ⟨go c s,wayB s⟩,false)) ↔ q∈LO (go c s) (wayB s) r∨q=(endC (go c s) r,true)∨q=(gap ⟨endC (go c s) r,(dgo (wayB s) r).2⟩,false):=by
   cases r with
   |nil=>exact⟨λh=>h.elim (λz=>nomatch z) .inr,λh=>h.elim (λz=>nomatch z) .inr⟩
   |cons t r =>
    have ih:=zjj (t::r) (go c s) (wayB s) hB (by simp) (λx hx=>h8 x (.tail _ hx)) q;constructor
    .rintro (h |h |h)
     .exact ih.mp (.inl h)
     .exact .inl (zcZ.mpr (.inl ⟨by rw[h],by rw[h];exact .head _⟩))
     .exact ih.mp (.inr h)
    .intro h;rcases ih.mpr h with z |z
     .exact .inl z
     .exact .inr (.inr z)
  rw[e0,e2,show endC c (s::r)=endC (go c s) r from rfl]
  have hLO:q∈LO c w (s::r) ↔ q=(c,true)∨(q.2=false/\q.1∈gapG c w s)∨q∈LO (go c s) (wayB s) r:=by
   rw[zcZ,zcZ];show (q.2=true/\q.1∈c::lawC (go c s) r)∨(q.2=false/\q.1∈gapG c w s++lawG (go c s) (wayB s) r) ↔ _;rw[Av,Aj];obtain⟨a,b⟩:=q;simp only[Prod.mk.injEq];constructor
   .rintro (⟨h,k |k⟩ |⟨h,k |k⟩)
    .exact .inl ⟨k,h⟩
    .exact .inr (.inr (.inl ⟨h,k⟩))
    .exact .inr (.inl ⟨h,k⟩)
    .exact .inr (.inr (.inr ⟨h,k⟩))
   .rintro (⟨k,h⟩ |⟨h,k⟩ |⟨h,k⟩ |⟨h,k⟩)
    .exact .inl ⟨h,.inl k⟩
    .exact .inr ⟨h,.inl k⟩
    .exact .inl ⟨h,.inr k⟩
    .exact .inr ⟨h,.inr k⟩
  rw[hLO];constructor
  .intro h;have h:(q=(c,true)∨q.2=false/\q.1∈gap ⟨c,w⟩::lefG c (nLf w s) w∨q∈seenL ⟨c,zak s⟩ (some s)∨q∈obs (wby ⟨go c s,wayB s⟩ (dgo (wayB s) r).1)):=hl.mp (h.elim .inl λz=>.inr (.inr z));rcases h with h |⟨h,k⟩ |h |h
   .exact .inl (.inl h)
   .exact .inl (.inr (.inl ⟨h,hG.mpr (.inl k)⟩))
   .rcases hsn.mp h with h |h |h |h |⟨h1,h⟩
    .exact .inl (.inl h)
    .exact .inl (.inr (.inl ⟨by rw[h],hG.mpr (.inl (by rw[h];exact hlast))⟩))
    .rcases hr.mp (.inr (.inl h)) with z |z
     .exact .inl (.inr (.inr z))
     .exact .inr z
    .rcases hr.mp (.inr (.inr h)) with z |z
     .exact .inl (.inr (.inr z))
     .exact .inr z
    .exact .inl (.inr (.inl ⟨by rw[h],hG.mpr (.inr ⟨h1,by rw[h]⟩)⟩))
   .rcases hr.mp (.inl h) with z |z
    .exact .inl (.inr (.inr z))
    .exact .inr z
  .intro h
   have back:(q∈obs (wby ⟨go c s,wayB s⟩ (dgo (wayB s) r).1)∨q=(go c s,true)∨q=(gap ⟨go c s,wayB s⟩,false))->q∈obs (wby ⟨c,w⟩ (Ae (nLf w s) none++some s::(dgo (wayB s) r).1))∨q=(c,true)∨q=(gap ⟨c,w⟩,false):=λz=>by
    refine hl.mpr (.inr (.inr ?_));rcases z with z |z |z
    .exact .inr z
    .exact .inl (hsn.mpr (.inr (.inr (.inl z))))
    .exact .inl (hsn.mpr (.inr (.inr (.inr (.inl z)))))
   have hc:(c,true)∈obs (wby ⟨c,w⟩ (Ae (nLf w s) none++some s::(dgo (wayB s) r).1)):=by
    cases hn:nLf w s with
    |zero=>exact Bg _ (by unfold seenL seen0;simp)
    |succ n=>exact Bg _ (by unfold seenL seen0;simp)
   have fin:(q∈obs (wby ⟨c,w⟩ (Ae (nLf w s) none++some s::(dgo (wayB s) r).1))∨q=(c,true)∨q=(gap ⟨c,w⟩,false))->q∈obs (wby ⟨c,w⟩ (Ae (nLf w s) none++some s::(dgo (wayB s) r).1))∨q=(gap ⟨c,w⟩,false):=by
    rintro (z |z |z)
    .exact .inl z
    .exact .inl (by rw[z];exact hc)
    .exact .inr z
   refine fin ?_
   rcases h with (h |⟨h,k⟩ |h) |h
   .exact .inr (.inl h)
   .rcases hG.mp k with z |⟨z1,z2⟩
    .exact hl.mpr (.inr (.inl ⟨h,z⟩))
    .exact hl.mpr (.inr (.inr (.inl (hsn.mpr (.inr (.inr (.inr (.inr ⟨z1,Prod.ext z2 h⟩))))))))
   .exact back (hr.mpr (.inl h))
   .exact back (hr.mpr (.inr h))
theorem zfL:∀(l m:List (Option Nat)) (e:Edge),eAt e (l++m)=eAt (eAt e l) m
 |[],_,_=>rfl
 |_::l,m,e=>zfL l m _
theorem ziz:∀(l m:List (Option Nat)) (e:Edge),wby e (l++m)=wby e l++wby (eAt e l) m
 |[],_,_=>rfl
 |a::l,m,e=>by show (e,a)::wby (edgeB e a) (l++m)=_;rw[ziz l m];rfl
theorem zfJ(c:Cell):∀(n w:Nat),w<4->eAt ⟨c,w⟩ (Ae n none)=⟨c,(w+n) % 4⟩
 | 0,w,h=>by show (⟨c,w⟩:Edge)=_;rw[BU,Br h]
 |n+1,w,h=>by
  show eAt ⟨c,(w+1) % 4⟩ (Ae n none)=_;rw[zfJ c n _ (Bj _ (by decide))]
  congr 1;lia
theorem zfK:∀(row:List Nat) (c:Cell) (w:Nat),w<4->(∀s∈row,s<8)->eAt ⟨c,w⟩ (dgo w row).1=⟨endC c row,(dgo w row).2⟩
 |[],_,_,_,_=>rfl
 |s::r,c,w,hw,h8=>by
  show eAt ⟨c,w⟩ (Ae (nLf w s) none++some s::(dgo (wayB s) r).1)=_;rw[zfL,zfJ c _ _ hw,zcM hw];show eAt (edgeB ⟨c,zak s⟩ (some s)) (dgo (wayB s) r).1=_;rw[zdj (h8 s (.head _)),zfK r _ _ (zgQ s) λx hx=>h8 x (.tail _ hx)];rfl
theorem zc2{row:List Nat}{w m:Nat}(h0:0<m)(hm:m<=row.length):(dgo w (row.take m)).2=wayB (row.getD (m-1) 0):=by
 obtain⟨k,rfl⟩:∃k,m=k+1:=⟨m-1,by lia⟩;have hk:k<row.length:=by lia
 rw[zaC (Aa hk),zc1,DF,AB,Aa hk];rfl
theorem zjG:∀(row:List Nat) (w j:Nat),j<=(dgo w row).1.length->∃m p,m<=row.length/\(dgo w row).1.take j=(dgo w (row.take m)).1++Ae p none/\(m<row.length->p<=nLf (dgo w (row.take m)).2 (row.getD m 0))/\(m=row.length->p=0)
 |[],w,j,h=>⟨0,0,Ai _,(by rw[show j=0 from Nat.le_zero.mp h];rfl),λz=>absurd z (Cn _),λ_=>rfl⟩
 |s::r,w,j,h=>by
  have e:(dgo w (s::r)).1=Ae (nLf w s) none++some s::(dgo (wayB s) r).1:=rfl;rw[e]at h ⊢;rw[Af,AK,AS]at h;rcases A8 (nLf w s) j with q |q
  .obtain⟨m,p,hm,h1,h2,h3⟩:=zjG r (wayB s) (j-nLf w s-1) (by lia);refine⟨m+1,p,Nat.succ_le_succ hm,?_,λz=>?_,λz=>h3 (Nat.succ.inj z)⟩
   .rw[CS,AK,Ba (by rw[AK];lia),show j-nLf w s=(j-nLf w s-1)+1 by lia,List.take_succ_cons,h1];show _=(Ae (nLf w s) none++some s::(dgo (wayB s) (r.take m)).1)++_;rw[AC];rfl
   .exact h2 (Nat.lt_of_succ_lt_succ z)
  .refine⟨0,j,Be _,?_,λ_=>q,λz=>nomatch z⟩;rw[BC (by rw[AK];exact q),Do,C6 q];rfl
theorem zk0:∀(row:List Nat) (w m p:Nat),m<row.length->p<=nLf (dgo w (row.take m)).2 (row.getD m 0)->∃j,j<(dgo w row).1.length/\(dgo w row).1.take j=(dgo w (row.take m)).1++Ae p none
 |[],_,_,_,h,_=>absurd h (Nat.not_lt_zero _)
 |s::r,w,0,p,_,hp=>by
  have e:(dgo w (s::r)).1=Ae (nLf w s) none++some s::(dgo (wayB s) r).1:=rfl;have hp:p<=nLf w s:=hp;rw[e];refine⟨p,by simp only[Af,AK,AS];lia,?_⟩;rw[BC (by rw[AK];exact hp),Do,C6 hp];rfl
 |s::r,w,m+1,p,h,hp=>by
  have e:(dgo w (s::r)).1=Ae (nLf w s) none++some s::(dgo (wayB s) r).1:=rfl;obtain⟨j,hj,h1⟩:=zk0 r (wayB s) m p (Nat.lt_of_succ_lt_succ h) hp;rw[e];refine⟨nLf w s+1+j,by simp only[Af,AK,AS];lia,?_⟩;rw[CS,AK,Ba (by rw[AK];lia),show nLf w s+1+j-nLf w s=j+1 by lia,List.take_succ_cons,h1];show _=(Ae (nLf w s) none++some s::(dgo (wayB s) (r.take m)).1)++_;rw[AC];rfl
theorem zff(n:Nat):(Ae n (none:Option Nat)).filterMap id=[]:=by
 induction n with
 |zero=>rfl
 |succ n ih=>exact ih
theorem zec:∀(row:List Nat) (w:Nat),(dgo w row).1.filterMap id=row
 |[],_=>rfl
 |s::r,w=>by
  show (Ae (nLf w s) none++some s::(dgo (wayB s) r).1).filterMap id=_;rw[BS,zff];show s::(dgo (wayB s) r).1.filterMap id=_;rw[zec r]
noncomputable def pw(row:List Nat)(m:Nat):Nat:=wayB (row.getD ((m+row.length-1) % row.length) 0)
noncomputable def Ed(c:Cell)(row:List Nat)(e:Edge):Prop:=∃m p,m<row.length/\p<=nLf (pw row m) (row.getD m 0)/\e=⟨endC c (row.take m),(pw row m+p) % 4⟩
noncomputable def hdW(row:List Nat):Nat:=zak (row.getD 0 0)
noncomputable def WE(c:Cell)(row:List Nat):Wk:=wby ⟨c,hdW row⟩ (deeds (hdW row) row)
theorem zcB(row:List Nat):hdW row<4:=zbY _
theorem pw_lt(row:List Nat)(m:Nat):pw row m<4:=zgQ _
theorem zdV{row:List Nat}{m:Nat}(h0:0<m)(hm:m<row.length):pw row m=wayB (row.getD (m-1) 0):=by unfold pw;rw[show m+row.length-1=(m-1)+row.length by lia,Nat.add_mod_right,Br (by lia)]
theorem zdd{row:List Nat}(h:row≠[]):pw row 0=(dgo (hdW row) row).2:=by have hl:=B3.mpr h;have:=zc2 (row:=row) (w:=hdW row) (m:=row.length) hl (Ai _);rw[AL]at this;unfold pw;rw[this,Cf,Br (by lia)]
theorem zcy{row:List Nat}(h:row≠[]):deeds (hdW row) row=(dgo (hdW row) row).1++Ae (nLf (pw row 0) (row.getD 0 0)) none:=by unfold deeds zaQ;rw[if_neg (by simpa using h),zdd h];rfl
theorem ziy:∀(ds:List (Option Nat)) (e:Edge) (i:Nat),(wby e ds)[i]?=ds[i]?.map λd=>(eAt e (ds.take i),d)
 |[],_,i=>by simp[wby]
 |d::ds,e,0=>rfl
 |d::ds,e,i+1=>by
  show (wby (edgeB e d) ds)[i]?=_;rw[ziy ds];rfl
theorem ziw:∀(ds:List (Option Nat)) (e:Edge),(wby e ds).map (·.2)=ds
 |[],_=>rfl
 |d::ds,e=>by show d::(wby (edgeB e d) ds).map (·.2)=_;rw[ziw ds]
theorem zhc{c:Cell}{row:List Nat}{w m p:Nat}(hw:w<4)(h8:∀s∈row,s<8):eAt ⟨c,w⟩ ((dgo w (row.take m)).1++Ae p none)=⟨endC c (row.take m),((dgo w (row.take m)).2+p) % 4⟩:=by rw[zfL,zfK _ _ _ hw λs hs=>h8 s (BB hs),zfJ _ _ _ (zdk _ _ hw)]
section
variable {c:Cell}{row:List Nat}
theorem zjp(h:row≠[]):(pw row 0+nLf (pw row 0) (row.getD 0 0)) % 4=hdW row:=zcM (pw_lt _ _)
theorem Ed.mem(h:row≠[])(h8:∀s∈row,s<8)(hc:endC c row=c){e:Edge}(he:Ed c row e):e∈(WE c row).map (·.1):=by
 have hl:=B3.mpr h;have hd:=zcy h
 have key:∀j,j<(deeds (hdW row) row).length->eAt ⟨c,hdW row⟩ ((deeds (hdW row) row).take j)=e->e∈(WE c row).map (·.1):=λj hj q=>by
  refine Bp.mpr ⟨(e,(deeds (hdW row) row)[j]),?_,rfl⟩;refine As (i:=j) ?_
  unfold WE;rw[ziy,Aa hj,C5,q]
 obtain⟨m,p,hm,hp,rfl⟩:=he;rcases BF m with rfl |m0
 .rcases A8 p (nLf (pw row 0) (row.getD 0 0)) with q |q
  .refine key ((dgo (hdW row) row).1.length+p) ?_ ?_
   .rw[hd,Af,AK];lia
   .rw[hd,CS,Ba (by lia),Nat.add_sub_cancel_left,Do,C6 (A7 q)];have:=zhc (c:=c) (row:=row) (w:=hdW row) (m:=row.length) (p:=p) (zcB _) h8;rw[AL]at this;rw[this,hc,<- zdd h];rfl
  .have e:p=nLf (pw row 0) (row.getD 0 0):=Nat.le_antisymm hp q;refine key 0 (zc4 _ _) ?_
   rw[e,zjp h];rfl
 .obtain⟨j,hj,q⟩:=zk0 row (hdW row) m p hm (by rw[zc2 m0 (A7 hm),<- zdV m0 hm];exact hp);refine key j (by rw[hd,Af];lia) ?_
  rw[hd,BC (A7 hj),q,zhc (zcB _) h8,zc2 m0 (A7 hm),<- zdV m0 hm]
theorem WE_at(h:row ≠ [])(h8:∀s ∈ row, s < 8)(hc:endC c row=c){j:Nat}(hj:j < (deeds (hdW row) row).length) :
    ∃m p,m<row.length/\p<=nLf (pw row m) (row.getD m 0)/\eAt ⟨c,hdW row⟩ ((deeds (hdW row) row).take j)=⟨endC c (row.take m),(pw row m+p) % 4⟩ /\
      ((deeds (hdW row) row).drop j).filterMap id++((deeds (hdW row) row).take j).filterMap id=row.drop m++row.take m:=by
  have hl:=B3.mpr h;have hd:=zcy h;have tot:(deeds (hdW row) row).filterMap id=row:=by rw[hd,BS,zec,zff,AH]
  have two:((deeds (hdW row) row).take j).filterMap id++((deeds (hdW row) row).drop j).filterMap id=row:=by rw[<- BS,BJ,tot]
  have key:∀m p, m <= row.length -> (deeds (hdW row) row).take j=(dgo (hdW row) (row.take m)).1 ++ Ae p none ->
      eAt ⟨c,hdW row⟩ ((deeds (hdW row) row).take j)=⟨endC c (row.take m),((dgo (hdW row) (row.take m)).2+p) % 4⟩/\((deeds (hdW row) row).drop j).filterMap id++((deeds (hdW row) row).take j).filterMap id=row.drop m++row.take m:=λm p hm q=>by
    refine⟨by rw[q];exact zhc (zcB _) h8,?_⟩;have e1:((deeds (hdW row) row).take j).filterMap id=row.take m:=by rw[q,BS,zec,zff,AH]
    rw[e1]at two ⊢;have e2:((deeds (hdW row) row).drop j).filterMap id=row.drop m:=List.append_cancel_left (two.trans (BJ m row).symm);rw[e2]
  have atEnd:∀p, p <= nLf (pw row 0) (row.getD 0 0) -> (deeds (hdW row) row).take j=(dgo (hdW row) row).1 ++ Ae p none -> ∃m p, m < row.length /\ p <= nLf (pw row m) (row.getD m 0) /\ eAt ⟨c, hdW row⟩ ((deeds (hdW row) row).take j)=⟨endC c (row.take m), (pw row m + p) % 4⟩ /\
      ((deeds (hdW row) row).drop j).filterMap id++((deeds (hdW row) row).take j).filterMap id=row.drop m++row.take m:=λp hp q=>by
    obtain⟨k1,k2⟩:=key row.length p (Ai _) (by rw[AL];exact q);refine⟨0,p,hl,hp,?_,?_⟩
    . rw[k1,AL,hc,<- zdd h];rfl
    . rw[k2];simp
  rcases A8 (dgo (hdW row) row).1.length j with q |q
  . refine atEnd (j-(dgo (hdW row) row).1.length) ?_ ?_
    . rw[hd,Af,AK]at hj;lia
    . rw[hd,CS,Ba (A7 q),Do]
      congr 2
      rw[hd,Af,AK]at hj;lia
  . obtain⟨m,p,hm,h1,h2,h3⟩:=zjG row (hdW row) j q;have h1':(deeds (hdW row) row).take j=(dgo (hdW row) (row.take m)).1++Ae p none:=by rw[hd,BC q,h1]
    rcases Nat.lt_or_eq_of_le hm with q2 |q2
    . obtain⟨k1,k2⟩:=key m p hm h1';have hp:=h2 q2;rcases BF m with rfl |m0
      . have hp0:p=0 := by have:nLf (hdW row) (row.getD 0 0)=0:=zdD _;rw[Cv]at hp;change p<=nLf (hdW row) (row.getD 0 0) at hp;lia
        refine⟨0,nLf (pw row 0) (row.getD 0 0),hl,Ai _,?_,k2⟩;rw[k1,hp0,zjp h,Cv,BU];show (⟨c,hdW row % 4⟩:Edge)=_;rw[Br (zcB _)];rfl
      . rw[zc2 m0 hm,<- zdV m0 q2]at hp k1;exact⟨m,p,q2,hp,k1,k2⟩
    . have:=h3 q2;subst this;subst q2;refine atEnd 0 (Be _) ?_
      rw[h1',AL]
end
section
variable {c:Cell}{row:List Nat}
theorem zg8{A B:Wk}{q:Cell×Bool}:q∈obs (A++B) ↔ q∈obs A∨q∈obs B:=by unfold obs;rw[List.flatMap_append,Aj]
theorem zkR(h:row≠[])(h8:∀s∈row,s<8)(hc:endC c row=c)(q:Cell×Bool):q∈obs (WE c row) ↔ q∈LO c (pw row 0) row:=by
 obtain⟨s,r,rfl⟩:∃s r,row=s::r:=by cases row with |nil=>exact absurd rfl h |cons s r=>exact⟨s,r,rfl⟩
 have hs:s<8:=h8 s (.head _)
 have hW:WE c (s::r)=wby ⟨c,hdW (s::r)⟩ (dgo (hdW (s::r)) (s::r)).1++wby ⟨c,pw (s::r) 0⟩ (Ae (nLf (pw (s::r) 0) s) none):=by unfold WE;rw[zcy h,ziz,zfK _ _ _ (zcB _) h8,hc,<- zdd h];rfl
 rw[hW,zg8];have hw1:hdW (s::r)=zak s:=rfl;have hP:=pw_lt (s::r) 0;have h1:=zjj (s::r) c (hdW (s::r)) (zcB _) h h8 q;rw[hc,<- zdd h]at h1;have h2:=zd5 c [] (nLf (pw (s::r) 0) s) (pw (s::r) 0) hP q;rw[AH]at h2;have hl:=zfB c (nLf (pw (s::r) 0) s) (pw (s::r) 0) hP;rw[zcM hP]at hl
 have hfst:(c,true)∈obs (wby ⟨c,hdW (s::r)⟩ (dgo (hdW (s::r)) (s::r)).1)/\(gap ⟨c,hdW (s::r)⟩,false)∈obs (wby ⟨c,hdW (s::r)⟩ (dgo (hdW (s::r)) (s::r)).1):=by have e:(dgo (hdW (s::r)) (s::r)).1=Ae (nLf (zak s) s) none++some s::(dgo (wayB s) r).1:=rfl;rw[e,zdD,List.replicate_zero,B7,zfv];exact⟨Bg _ (by unfold seenL seen0;simp),Bg _ (by unfold seenL seen0;simp)⟩
 have hLO0:q∈LO c (pw (s::r) 0) (s::r) ↔ q=(c,true)∨(q.2=true/\q.1∈lawC (go c s) r)∨(q.2=false/\(q.1∈gap ⟨c,pw (s::r) 0⟩::lefG c (nLf (pw (s::r) 0) s) (pw (s::r) 0)∨q.1∈(if s % 2=0 then [go c ((2*zak s+7) % 8)] else [])∨q.1∈lawG (go c s) (wayB s) r)):=by
  rw[zcZ];show (q.2=true/\q.1∈c::lawC (go c s) r)∨(q.2=false/\q.1∈(gap ⟨c,pw (s::r) 0⟩::(lefG c (nLf (pw (s::r) 0) s) (pw (s::r) 0)++_))++lawG (go c s) (wayB s) r) ↔ _;rw[Av,Aj,Av,Aj,Av,Prod.ext_iff (x:=q)];constructor
  .rintro (⟨a,b |b⟩ |⟨a,(b |b |b) |b⟩)
   .exact .inl ⟨b,a⟩
   .exact .inr (.inl ⟨a,b⟩)
   .exact .inr (.inr ⟨a,.inl (.inl b)⟩)
   .exact .inr (.inr ⟨a,.inl (.inr b)⟩)
   .exact .inr (.inr ⟨a,.inr (.inl b)⟩)
   .exact .inr (.inr ⟨a,.inr (.inr b)⟩)
  .rintro (⟨b,a⟩ |⟨a,b⟩ |⟨a,(b |b) |b |b⟩)
   .exact .inl ⟨a,.inl b⟩
   .exact .inl ⟨a,.inr b⟩
   .exact .inr ⟨a,.inl (.inl b)⟩
   .exact .inr ⟨a,.inl (.inr (.inl b))⟩
   .exact .inr ⟨a,.inl (.inr (.inr b))⟩
   .exact .inr ⟨a,.inr b⟩
 have hLO1:q∈LO c (hdW (s::r)) (s::r) ↔ q=(c,true)∨(q.2=true/\q.1∈lawC (go c s) r)∨(q.2=false/\(q.1=gap ⟨c,zak s⟩∨q.1∈(if s % 2=0 then [go c ((2*zak s+7) % 8)] else [])∨q.1∈lawG (go c s) (wayB s) r)):=by
  rw[zcZ];show (q.2=true/\q.1∈c::lawC (go c s) r)∨(q.2=false/\q.1∈(gap ⟨c,zak s⟩::(lefG c (nLf (zak s) s) (zak s)++_))++lawG (go c s) (wayB s) r) ↔ _;rw[zdD];show (q.2=true/\q.1∈c::lawC (go c s) r)∨(q.2=false/\q.1∈(gap ⟨c,zak s⟩::([]++_))++lawG (go c s) (wayB s) r) ↔ _;rw[B7,Av,Aj,Av,Prod.ext_iff (x:=q)];constructor
  .rintro (⟨a,b |b⟩ |⟨a,(b |b) |b⟩)
   .exact .inl ⟨b,a⟩
   .exact .inr (.inl ⟨a,b⟩)
   .exact .inr (.inr ⟨a,.inl b⟩)
   .exact .inr (.inr ⟨a,.inr (.inl b)⟩)
   .exact .inr (.inr ⟨a,.inr (.inr b)⟩)
  .rintro (⟨b,a⟩ |⟨a,b⟩ |⟨a,b |b |b⟩)
   .exact .inl ⟨a,.inl b⟩
   .exact .inl ⟨a,.inr b⟩
   .exact .inr ⟨a,.inl (.inl b)⟩
   .exact .inr ⟨a,.inl (.inr b)⟩
   .exact .inr ⟨a,.inr b⟩
 rw[hLO1]at h1;rw[hLO0];constructor
 .rintro (z |z)
  .rcases h1.mp (.inl z) with (z |z |⟨a,z⟩) |z |z
   .exact .inl z
   .exact .inr (.inl z)
   .rcases z with z |z
    .exact .inr (.inr ⟨a,.inl (by rw[z];exact hl)⟩)
    .exact .inr (.inr ⟨a,.inr z⟩)
   .exact .inl z
   .exact .inr (.inr ⟨by rw[z],.inl (by rw[z];exact .head _)⟩)
  .rcases h2.mp (.inl z) with z |z |z
   .exact .inl z
   .exact .inr (.inr ⟨z.1,.inl z.2⟩)
   .cases z
 .have back1:(q=(c, true) ∨ (q.2=true /\ q.1 ∈ lawC (go c s) r) ∨ (q.2=false /\ (q.1=gap ⟨c, zak s⟩ ∨ q.1 ∈ (if s % 2=0 then [go c ((2 * zak s + 7) % 8)] else []) ∨ q.1 ∈ lawG (go c s) (wayB s) r))) ∨ q=(c, true) ∨ q=(gap ⟨c, pw (s :: r) 0⟩, false) -> q ∈ obs (wby ⟨c, hdW (s :: r)⟩ (dgo (hdW (s :: r)) (s :: r)).1) := λz => by
   rcases h1.mpr z with y |y
   .exact y
   .rw[y];exact hfst.2
  rintro (z |z |⟨a,z |z⟩)
  .exact .inl (back1 (.inl (.inl z)))
  .exact .inl (back1 (.inl (.inr (.inl z))))
  .rcases h2.mpr (.inr (.inl ⟨a,z⟩)) with y |y |y
   .exact .inr y
   .exact .inl (back1 (.inr (.inl y)))
   .exact .inl (back1 (.inr (.inr y)))
  .exact .inl (back1 (.inl (.inr (.inr ⟨a,.inr z⟩))))
theorem Con.iff{L M:List (Cell×Bool)}(h:∀q,q∈L ↔ q∈M):Con L ↔ Con M:=⟨λz=>z.mono λq m=>(h q).mp m,λz=>z.mono λq m=>(h q).mpr m⟩
theorem zk4{w:Nat}:Con (LO c w row) ↔ ∃g∈lawG c w row,g∈lawC c row:=by
 constructor
 .rintro⟨x,a,b⟩;rcases zcZ.mp a with⟨_,a⟩ |⟨z,_⟩
  .rcases zcZ.mp b with⟨z,_⟩ |⟨_,b⟩
   .cases z
   .exact⟨x,b,a⟩
  .cases z
 .rintro⟨x,b,a⟩;exact⟨x,zcZ.mpr (.inl ⟨rfl,a⟩),zcZ.mpr (.inr ⟨rfl,b⟩)⟩
noncomputable def nN(l:List (Option Nat)):Nat:=(l.filter Option.isNone).length
noncomputable def nO(l:List (Option Nat)):Nat:=(l.filter slant).length
theorem zjq:∀(l:List (Option Nat)) (e:Edge),nL (wby e l)=nN l
 |[],_=>rfl
 |d::l,e=>by
  unfold nL nN;show (((e,d)::wby (edgeB e d) l).filter λq=>q.2.isNone).length=_;have ih:=zjq l (edgeB e d);unfold nL nN at ih;rw[BG,BG]
  cases d <;> simp[ih]
theorem zjk:∀(l:List (Option Nat)) (e:Edge),nS (wby e l)=nO l
 |[],_=>rfl
 |d::l,e=>by
  unfold nS nO;show (((e,d)::wby (edgeB e d) l).filter λq=>slant q.2).length=_;have ih:=zjk l (edgeB e d);unfold nS nO at ih;rw[BG,BG]
  by_cases h:slant d=true
  .rw[if_pos h,if_pos h,AS,AS,ih]
  .rw[if_neg h,if_neg h,ih]
theorem zgl(l m:List (Option Nat)):nN (l++m)=nN l+nN m:=by unfold nN;rw[C1,Af]
theorem zgk(l m:List (Option Nat)):nO (l++m)=nO l+nO m:=by unfold nO;rw[C1,Af]
theorem zjn:∀n,nN (Ae n none)=n
 | 0=>rfl
 |n+1=>by rw[show Ae (n+1) (none:Option Nat)=[none]++Ae n none from rfl,zgl,zjn n];show 1+n=n+1;lia
theorem zjm:∀n,nO (Ae n none)=0
 | 0=>rfl
 |n+1=>by rw[show Ae (n+1) (none:Option Nat)=[none]++Ae n none from rfl,zgk,zjm n];rfl
theorem zkU:∀(row:List Nat) (w:Nat),nN (dgo w row).1=lawN w row
 |[],_=>rfl
 |s::r,w=>by
  show nN (Ae (nLf w s) none++([some s]++(dgo (wayB s) r).1))=nLf w s+lawN (wayB s) r;rw[zgl,zjn,zgl,zkU r];show nLf w s+(0+_)=_;lia
theorem zkT:∀(row:List Nat) (w:Nat),nO (dgo w row).1=nOdd row
 |[],_=>rfl
 |s::r,w=>by
  show nO (Ae (nLf w s) none++([some s]++(dgo (wayB s) r).1))=((s::r).filter λs=>decide (s % 2=1)).length;have ih:=zkT r (wayB s);unfold nOdd at ih;rw[zgk,zjm,zgk,ih,BG]
  by_cases h:s % 2=1
  .rw[if_pos (decide_eq_true h),AS];have:nO [some s]=1:=by unfold nO;rw[BG,if_pos (show slant (some s)=true from decide_eq_true h)];rfl
   lia
  .rw[if_neg (by simpa using h)];have:nO [some s]=0:=by unfold nO;rw[BG,if_neg (show ¬ slant (some s)=true from λz=>h (of_decide_eq_true z))];rfl
   lia
theorem nL_WE(h:row≠[]):nL (WE c row)=lawN (pw row 0) row:=by
 unfold WE;rw[zjq,zcy h,zgl,zjn,zkU];obtain⟨s,r,rfl⟩:∃s r,row=s::r:=by cases row with |nil=>exact absurd rfl h |cons s r=>exact⟨s,r,rfl⟩
 show nLf (zak s) s+lawN (wayB s) r+nLf (pw (s::r) 0) s=nLf (pw (s::r) 0) s+lawN (wayB s) r;rw[zdD];lia
theorem nS_WE(h:row≠[]):nS (WE c row)=nOdd row:=by unfold WE;rw[zjk,zcy h,zgk,zjm,zkT];rfl
theorem zix:∀(ds:List (Option Nat)) (e:Edge) (l:Edge×Option Nat),(wby e ds)[(wby e ds).length-1]?=some l->edgeB l.1 l.2=eAt e ds
 |[],_,_,h=>by cases h
 |[d],e,l,h=>by cases h;rfl
 |d::d2::ds,e,l,h=>by
  refine zix (d2::ds) (edgeB e d) l ?_
  rw[<- h];show _=((e,d)::wby (edgeB e d) (d2::ds))[((e,d)::wby (edgeB e d) (d2::ds)).length-1]?;rw[AS,DF];have:0<(wby (edgeB e d) (d2::ds)).length:=by rw[zbA];exact Nat.succ_pos _
  obtain⟨k,hk⟩:∃k,(wby (edgeB e d) (d2::ds)).length=k+1:=⟨_,(Nat.succ_pred_eq_of_pos this).symm⟩;rw[hk];rfl
theorem zmr(h:row≠[])(h8:∀s∈row,s<8):eAt ⟨c,hdW row⟩ (deeds (hdW row) row)=⟨endC c row,hdW row⟩:=by rw[zcy h,zfL,zfK _ _ _ (zcB _) h8,<- zdd h,zfJ _ _ _ (pw_lt _ _),zjp h]
theorem ziA{k:Nat}:∀(ds:List (Option Nat)) (e:Edge) (t:Int),e.w<4->1<=t->t<=3->(e.w:Int) % 4=(k+t) % 4->k<4->(∀q∈wby e ds,q.1.w≠k)->0<=t+nN ds-nO ds/\t+nN ds-nO ds<=4
 |[],e,t,_,h1,h3,_,_,_=>⟨by show 0<=t+0-0;lia,by show t+0-0<=4;lia⟩
 |d::ds,e,t,hw,h1,h3,hm,hk,hno=>by
  have hc:nN (d::ds)=nN [d]+nN ds:=zgl [d] ds;have hc2:nO (d::ds)=nO [d]+nO ds:=zgk [d] ds
  obtain⟨dd,hd1,hd2,hd3⟩:∃dd:Int,(nN [d]:Int)-nO [d]=dd/\-1<=dd/\dd<=1/\((edgeB e d).w:Int) % 4=(e.w+dd) % 4:=by
   cases d with
   |none=>exact⟨1,rfl,by decide,by decide,by show (((e.w+1) % 4:Nat):Int) % 4=_;lia⟩
   |some s =>
    by_cases q:s % 2=1
    .refine⟨-1,?_,by decide,by decide,?_⟩
     .have:nO [some s]=1:=by unfold nO;rw[BG,if_pos (show slant (some s)=true from decide_eq_true q)];rfl
      have:nN [some s]=0:=rfl;lia
     .show ((if s % 2=1 then (⟨go e.c s,(e.w+3) % 4⟩:Edge) else ⟨go e.c s,e.w⟩).w:Int) % 4=_;rw[if_pos q];show (((e.w+3) % 4:Nat):Int) % 4=_;lia
    .refine⟨0,?_,by decide,by decide,?_⟩
     .have:nO [some s]=0:=by unfold nO;rw[BG,if_neg (show ¬ slant (some s)=true from λz=>q (of_decide_eq_true z))];rfl
      have:nN [some s]=0:=rfl;lia
     .show ((if s % 2=1 then (⟨go e.c s,(e.w+3) % 4⟩:Edge) else ⟨go e.c s,e.w⟩).w:Int) % 4=_;rw[if_neg q];show (e.w:Int) % 4=_;lia
  cases ds with
  |nil =>
   have:nN ([]:List (Option Nat))=0:=rfl;have:nO ([]:List (Option Nat))=0:=rfl;lia
  |cons d2 ds =>
   have hw':(edgeB e d).w<4:=zfI hw;have hne:(edgeB e d).w≠k:=hno (edgeB e d,d2) (.tail _ (.head _));have ih:=ziA (k:=k) (d2::ds) (edgeB e d) (t+dd) hw' (by lia) (by lia) (by lia) hk λq hq=>hno q (.tail _ hq)
   lia
theorem zhk{k:Nat}(hk:k<4)(h:row≠[])(hn:(nL (WE c row):Int)-nS (WE c row)=4∨(nL (WE c row):Int)-nS (WE c row)=-4):∃e∈(WE c row).map (·.1),e.w=k:=by
 apply Classical.byContradiction
 intro hno;have hno':∀q∈WE c row,q.1.w≠k:=λq hq z=>hno ⟨q.1,Bp.mpr ⟨q,hq,rfl⟩,z⟩
 have hh:=zcB row;obtain⟨d,hd⟩:=zhj (deeds (hdW row) row) ⟨c,hdW row⟩ (zc4 _ _);have h0:hdW row≠k:=hno' _ (As (i:=0) hd);have:=ziA (k:=k) (deeds (hdW row) row) ⟨c,hdW row⟩ (((hdW row:Int)-k) % 4) hh (by lia) (by lia) (by show (hdW row:Int) % 4=_;lia) hk hno';unfold WE at hn;rw[zjq,zjk]at hn;lia
end
structure Fnd (c:Cell) (row:List Nat) (so:Str) (r:Rnd):Prop where
 eso:r.so=so
 ex:∃m p,m<row.length/\p<=nLf (pw row m) (row.getD m 0)/\((r.x,r.y):Cell)=endC c (row.take m)/\(pw row m+p) % 4=kOf so/\r.row=row.drop m++row.take m
 least:∀f,Ed c row f->f.w=kOf so->HT.lexLt [f.c.2,f.c.1] [r.y,r.x]=false
section
variable {c:Cell}{row:List Nat}
theorem zj0 {W:Wk}{so:Str}(h:so = "rim" ∨ so = "hole") (hn:(nL W:Int)-nS W=moreL so):sortS W=so:=by
 unfold sortS;rcases h with h |h
 .subst h;have:moreL "rim" = 4:=rfl;rw[if_pos (by lia)]
 .subst h;have:moreL "hole" = -4:=rfl;rw[if_neg (by lia)]
theorem zeN(W:Wk):W.filterMap (·.2)=(W.map (·.2)).filterMap id:=by rw[List.filterMap_map];rfl
theorem IsRnd.fnd {so:Str}{r:Rnd}(h:row≠[]) (h8:∀s∈row,s<8) (hc:endC c row=c) (hso:so = "rim" ∨ so = "hole") (hn:(nL (WE c row):Int)-nS (WE c row)=moreL so) (hr:IsRnd (WE c row) r):Fnd c row so r:=by
 have hs:=zj0 hso hn;obtain⟨h1,j,e,hj,hb,hx,hy,hrow⟩:=hr;rw[hs]at h1 hb
 have hj':j<(deeds (hdW row) row).length:=by
  have:=(Ac.mp hj).1;unfold WE at this
  rwa [Am,zbA]at this
 obtain⟨m,p,hm,hp,k1,k2⟩:=WE_at h h8 hc hj'
 have he:e=⟨endC c (row.take m),(pw row m+p) % 4⟩:=by unfold WE at hj;rw[AI,ziy,Aa hj']at hj;rw[<- k1];exact (AW hj).symm
 refine⟨h1,⟨m,p,hm,hp,?_,?_,?_⟩,λf hf hw=>?_⟩
 .rw[hx,hy,he]
 .rw[<- hb.2.1,he]
 .rw[hrow,BS,zeN,zeN];unfold WE;rw[List.map_drop,List.map_take,ziw,k2]
 .rw[hx,hy];exact hb.2.2 f (hf.mem h h8 hc) hw
theorem ziY{m:Nat}(hm:m<row.length):(row.drop m++row.take m).length=row.length:=by rw[Af,Bh,AX];lia
theorem zeR{m t:Nat}(h:m+t<row.length):(row.drop m++row.take m).getD t 0=row.getD (m+t) 0:=by rw[AB,AB,Ar (by rw[Bh];lia),C0]
theorem ziZ{m t:Nat}(hm:m<row.length)(h:row.length<=m+t)(h2:t<row.length):(row.drop m++row.take m).getD t 0=row.getD (m+t-row.length) 0:=by rw[AB,AB,AJ (by rw[Bh];lia),Bh,List.getElem?_take];rw[if_pos (by lia),show t-(row.length-m)=m+t-row.length by lia]
theorem zdT{m t:Nat}(h:m+t<=row.length):endC (endC c (row.take m)) ((row.drop m++row.take m).take t)=endC c (row.take (m+t)):=by rw[BC (by rw[Bh];lia),<- zfH,List.take_add]
theorem zdU{m t:Nat}(hm:m<row.length)(hc:endC c row=c)(h:row.length<=m+t)(h2:t<=row.length):endC (endC c (row.take m)) ((row.drop m++row.take m).take t)=endC c (row.take (m+t-row.length)):=by
 rw[CS,Ba (l:=row.drop m) (by rw[Bh];lia),<- zfH,<- AC,BJ,zfH,hc,Bh,List.take_take,C6 (by lia)]
 congr 2;lia
theorem Ed.rot{m t p:Nat}(hm:m < row.length)(hc:endC c row=c)(h0 : 0 < t)(ht:t < row.length)(hp:p <= nLf (wayB ((row.drop m ++ row.take m).getD (t-1) 0)) ((row.drop m ++ row.take m).getD t 0)) :
  Ed c row ⟨endC (endC c (row.take m)) ((row.drop m++row.take m).take t),(wayB ((row.drop m++row.take m).getD (t-1) 0)+p) % 4⟩:=by
 rcases A8 (m+t) row.length with q |q
 .rw[zeR (by lia),zeR q]at hp;rw[zdT (A7 q),zeR (by lia),show m+(t-1)=m+t-1 by lia,<- zdV (by lia) q];rw[show m+(t-1)=m+t-1 by lia,<- zdV (by lia) q]at hp;exact⟨m+t,p,q,hp,rfl⟩
 .rw[ziZ hm q ht]at hp;rw[zdU hm hc q (A7 ht)]
  have e:wayB ((row.drop m++row.take m).getD (t-1) 0)=pw row (m+t-row.length):=by
   rcases Nat.eq_or_lt_of_le q with q2 |q2
   .rw[zeR (by lia)];unfold pw;rw[show m+t-row.length=0 by lia,Cf,Br (by lia),show m+(t-1)=row.length-1 by lia]
   .rw[ziZ hm (by lia) (by lia),zdV (by lia) (by lia)]
    congr 2;lia
  rw[e]at hp ⊢;exact⟨m+t-row.length,p,by lia,hp,rfl⟩
theorem zj3{m:Nat}(hm:m<row.length):wayB ((row.drop m++row.take m).getD (row.length-1) 0)=pw row m:=by
 rcases BF m with rfl |m0
 .rw[zeR (by lia)];unfold pw;rw[Cf,Cf,Br (by lia)]
 .rw[ziZ hm (by lia) (by lia),zdV m0 hm]
  congr 2;lia
theorem zi0{m:Nat}(hm:m<row.length):(row.drop m++row.take m).getD 0 0=row.getD m 0:=by rw[zeR (by lia),BU]
structure Own (c:Cell) (row:List Nat) (so:Str) (r:Rnd):Prop where
 eso:r.so=so
 len:r.row.length=row.length
 shift:∃t,t<row.length/\endC (r.x,r.y) (r.row.take t)=c/\r.row.drop t++r.row.take t=row
 ends:nLf (kOf so) (r.row.getD 0 0)<=nLf (wayB (r.row.getD (row.length-1) 0)) (r.row.getD 0 0)
 mid:∀t p,0<t->t<row.length->p<=nLf (wayB (r.row.getD (t-1) 0)) (r.row.getD t 0)->(wayB (r.row.getD (t-1) 0)+p) % 4=kOf so->HT.lexLt [(endC (r.x,r.y) (r.row.take t)).2,(endC (r.x,r.y) (r.row.take t)).1] [r.y,r.x]=false
 last:HT.lexLt [(endC (r.x,r.y) r.row).2,(endC (r.x,r.y) r.row).1] [r.y,r.x]=false
theorem zil(a b:Int):HT.lexLt [a,b] [a,b]=false:=by rw[HT.lexLt_cons,if_pos rfl,HT.lexLt_cons,if_pos rfl];rfl
theorem Fnd.own{so:Str}{r:Rnd}(h:row≠[])(hc:endC c row=c)(hf:Fnd c row so r):Own c row so r:=by
 obtain⟨m,p,hm,hp,hxy,hk,hrow⟩:=hf.ex;have hl:=B3.mpr h;refine⟨hf.eso,by rw[hrow,ziY hm],?_,?_,λt p0 h0 ht hp0 hk0=>?_,?_⟩
 .rcases BF m with rfl |m0
  .refine⟨0,hl,?_,?_⟩
   .rw[hxy,hrow];simp[endC]
   .rw[hrow];simp
  .refine⟨row.length-m,by lia,?_,?_⟩
   .rw[hxy,hrow,zdT (by lia),show m+(row.length-m)=row.length by lia,AL,hc]
   .rw[hrow,List.drop_append,CZ (by rw[Bh];lia),CS,Ba (l:=row.drop m) (by rw[Bh];lia),Bh,Nat.sub_self,List.drop_zero,Cv,AH,B7,BJ]
 .rw[hrow,zj3 hm,zi0 hm,<- hk,zjo (pw_lt _ _) hp];lia
 .have:=Ed.rot (p:=p0) hm hc h0 ht (by rw[<- hrow];exact hp0);rw[<- hrow,<- hxy]at this;exact hf.least _ this hk0
 .rw[hxy,hrow];have:=zdU (c:=c) (m:=m) (t:=row.length) hm hc (by lia) (Ai _);rw[Ba (l:=row.drop m++row.take m) (by rw[ziY hm];exact Ai _),DF]at this;rw[this,<- hxy];exact zil _ _
end
noncomputable def rowI(row:List Nat):List Int:=row.map λn:Nat=>(n:Int)
theorem zhz(row:List Nat):rowV row=(rowI row).map V.int:=by unfold rowV rowI;rw[List.map_map];rfl
noncomputable abbrev SoOk (r:Rnd):Prop:=r.so = "rim" ∨ r.so = "hole"
theorem Whole.short{cs:List Cell}{R:List Rnd}(h:Whole cs R):∀r∈R,r.row.length<=4*cs.length:=λr hr=>by
 obtain⟨ESS,hP,_⟩:=h;obtain⟨i,hi,ei⟩:=AR hr;have hi':i<ESS.length:=by rw[<- hP.len];exact hi
 obtain⟨⟨b,hc⟩,_,j,e,_,_,_,_,hrow⟩:=hP.each i ESS[i] r (Aa hi') (by rw[Aa hi,ei]);rw[hrow];refine Bf (List.length_filterMap_le _ _) ?_
 have:=hc.1.short;rw[Af,Bh,AX,zcS];lia
theorem Whole.so{cs:List Cell}{R:List Rnd}(h:Whole cs R):∀r∈R,SoOk r:=λr hr=>let ⟨_,hP,_⟩:=h;hP.so hr
theorem Whole.few{cs:List Cell}{R:List Rnd}(h:Whole cs R):R.length<=cs.length:=let ⟨_,hP,_⟩:=h;hP.few
theorem four:4<=sizeLine:=by decide
noncomputable def pR(q:V×V)(v:V)(H:Hp):Prop:=∃b,v=.ref b/\H b=some (.tup [q.1,q.2])
theorem zf1:∀(l:List (V×V)){σ:St}{H:Hp}{Q:List V->Hp->Prop},(∀ts H',Same H H'->VR ts l pR H'->Q ts H')->tPrs l σ H Q
 |[],σ,H,Q,h=>h [] H (Same.refl _) VR.nil
 | (a,b)::r,σ,H,Q,h=>by
  refine⟨two,λp hp=>?_⟩;refine zf1 r λts H' s' v'=>h _ _ ((Same.up hp).trans s') (VR.cons.mpr ⟨⟨p,rfl,s' _ _ zaa⟩,v'⟩)
theorem zi2(l:List (V×V))(hl:l.length<=sizeLine){D:Ends}{σ:St}{H:Hp}(k:∀p H' ts,H p=none->Same H H'->H' p=some (.lst ts)->VR ts l pR H'->D.rt (.ref p) H'):tRet (tLst (tPrs l)) D σ H:=by
 show tPrs l σ H _;refine zf1 l λts H1 s1 v1=>⟨by rw[v1.1];exact hl,λp hp=>?_⟩
 refine k p _ ts (s1.free hp) (s1.trans (Same.up hp)) zaa (v1.mono λx v h=>?_);obtain⟨b,rfl,hb⟩:=h;exact⟨b,rfl,Same.up hp _ _ hb⟩
noncomputable def prsC(l:List Cell):List (V×V):=l.map λq=>(.int q.1,.int q.2)
theorem VR.prsC{ts:List V}{l:List Cell}{H:Hp}(h:VR ts (prsC l) pR H):VR ts l cR H:=by
 refine⟨h.1.trans (Am ..),λi q v h1 h2=>?_⟩;obtain⟨q',hq,b,rfl,hb'⟩:=h.at h2;have:(RR.prsC l)[i]?=some (.int q.1,.int q.2):=by unfold RR.prsC;rw[AI,h1];rfl
 rw[this]at hq
 cases hq
 exact⟨b,rfl,hb'⟩
noncomputable def mvs:List Cell:=[(1,0),(1,1),(0,1),(-1,1),(-1,0),(-1,-1),(0,-1),(1,-1)]
theorem zkV{n:Nat}(h:n<8):mvs[n]?=some (mv n):=(by decide:∀n<8,mvs[n]?=some (mv n)) n h
noncomputable def spMvs:Sp:=λvs H Q _=>vs=[]/\∀p H' us,H p=none->Same H H'->H' p=some (.lst us)->VR us mvs cR H'->Q (.ref p) H'
theorem zgi (d:Df K mg "_law_eight" zbv []):FnOk P w K mg base CX0 1 d.f d.fd [] spMvs:=by
 refine d.F.ok zfd (λvs H Q E h=>?_) (λcdv A outer s H vs Q E hr h=>?_)
 .obtain⟨rfl,_⟩:=h;rfl
 .obtain⟨rfl,k⟩:=h;have hb:RetPs (zaA zbv) (prsC mvs):=.mk (.cons .int .int (.cons .int .int (.cons .int .int (.cons .neg .int (.cons .neg .int (.cons .neg .neg (.cons .int .neg (.cons .int .neg .nil))))))));revert hb;generalize zaA zbv=body;intro hb;have hl:(prsC mvs).length<=sizeLine:=by decide
  generalize mvs=ms at hb hl k;exact⟨_,zga hb,zi2 _ hl λp H1 ts hp s1 e1 v1=>k p H1 ts hp s1 e1 v1.prsC⟩
noncomputable def zdB:Sp:=λvs H Q _=>∃(x y st:Int),vs=[.int x,.int y,.int st]/\∀p H',H p=none->Same H H'->H' p=some (.tup (cellT (go (x,y) (st % 8).toNat)))->Q (.ref p) H'
theorem zfp (g__law_eight:Fn P w K mg base 1 "_law_eight" [] spMvs) (d:Df K mg "_law_beside" zca ["_law_x","_law_y","_law_step"]):FnOk P w K mg base CX0 2 d.f d.fd ["_law_x","_law_y","_law_step"] zdB:=by
 refine d.F.ok zer (λvs H Q E h=>?_) (λcdv A outer s H vs Q E hr h=>?_)
 .obtain⟨x,y,st,rfl,_⟩:=h;rfl
 .obtain⟨x,y,st,rfl,k⟩:=h;refine⟨_,(zaf (zaj (zav (pa_B (pe_op zaF (pv 0) (pe_ix zat (pe_ix zaE (zfj g__law_eight.ok (hr.mono (by decide)) (by rfl) g__law_eight.m g__law_eight.kp g__law_eight.b .nil pass0) (pe_op zaN (pv 2) zab) (λ_ _=>rfl)) zab (λ_ _=>rfl))) (pa_B (pe_op zaF (pv 1) (pe_ix zat (pe_ix zaE (zfj g__law_eight.ok (hr.mono (by decide)) (by rfl) g__law_eight.m g__law_eight.kp g__law_eight.b .nil pass0) (pe_op zaN (pv 2) zab) (λ_ _=>rfl)) zab (λ_ _=>rfl))) zad))))),?_⟩;obtain⟨n,hn,hn8⟩:∃n:Nat,st % 8=(n:Int)/\n<8:=⟨(st % 8).toNat,by lia,by lia⟩;refine⟨_,rfl,rfl,λl1 H1 us1 hl1 s1 e1 v1=>?_⟩;obtain⟨u1,hu1⟩:∃u,us1[n]?=some u:=⟨_,Aa (by rw[v1.1];exact hn8)⟩;obtain⟨c1,hc1,b1,rfl,q1⟩:=v1.at hu1;rw[zkV hn8]at hc1
  cases hc1
  refine⟨_,rfl,_,_,rfl,rfl,(by show (0:Int)<8;decide),l1,_,_,_,rfl,rfl,SqL.of e1,(by show atI us1 (st % 8)=_;rw[hn];exact zai hu1),?_⟩;refine⟨b1,_,_,_,rfl,rfl,SqT.of q1,zai (j:=0) rfl,_,_,rfl,rfl,?_⟩;refine⟨_,rfl,rfl,λl2 H2 us2 hl2 s2 e2 v2=>?_⟩;obtain⟨u2,hu2⟩:∃u,us2[n]?=some u:=⟨_,Aa (by rw[v2.1];exact hn8)⟩;obtain⟨c2,hc2,b2,rfl,q2⟩:=v2.at hu2;rw[zkV hn8]at hc2
  cases hc2
  refine⟨_,rfl,_,_,rfl,rfl,(by show (0:Int)<8;decide),l2,_,_,_,rfl,rfl,SqL.of e2,(by show atI us2 (st % 8)=_;rw[hn];exact zai hu2),?_⟩;refine⟨b2,_,_,_,rfl,rfl,SqT.of q2,zai (j:=1) rfl,_,_,rfl,rfl,two,λp hp=>?_⟩;refine k p _ (s1.free (s2.free hp)) (s1.trans (s2.trans (Same.up hp))) ?_
  rw[zaa,hn,CJ];rfl
noncomputable def sqC:List Cell:=(BD 16).map λi=>(((i % 4:Nat):Int),((i / 4:Nat):Int))
noncomputable def zhr:Sp:=λvs H Q _=>vs=[]/\∀p H' us,H p=none->Same H H'->H' p=some (.lst us)->VR us sqC cR H'->Q (.ref p) H'
theorem zfn (T:Txt P w K mg) (d:Df K mg "_law_square" zby []):FnOk P w K mg base CX0 1 d.f d.fd [] zhr:=by
 refine d.F.ok zeq (λvs H Q E h=>?_) (λcdv A outer s H vs Q E hr h=>?_)
 .obtain⟨rfl,_⟩:=h;rfl
 .obtain⟨rfl,k⟩:=h;have nb0:(["_law_at"]:List Str).Nodup:=by decide +kernel
  refine⟨_,(zaf (zaj (za3 (osc:=zae zby) (N:=zc8) (N':=["_law_at"]) (sel:=[none]) bO (zb0 (by rfl) T.nrange (pa_C zab zad)) (λ_ _ _ _ _=>(nG 0 nb0)) (λ_ _ _ _ _=>zbq) (λ_ _ _ _ _=>(zav (pa_B (pe_op zaN (pv 0) zab) (pa_B (pe_op zbU (pv 0) zab) zad))))))),?_⟩;refine⟨16,rfl,by decide,by decide,λq hq=>?_⟩
  refine zbN (lo:=0) (n:=(16:Int).toNat) (λi σ H2=>∃o us,σ=[o]/\Same H H2/\H2 q=some (.lst us)/\VR us ((BD i).map λi=>(((i % 4:Nat):Int),((i / 4:Nat):Int))) cR H2)
   ⟨none,[],rfl,Same.up hq,zaa,VR.nil⟩ ?_ ?_
  .rintro i σ H2 hi ⟨o,us,rfl,s2,e2,v2⟩;have hi16:i<16:=hi;refine gN ?_
   refine⟨_,rfl,_,_,rfl,rfl,(by show (0:Int)<4;decide),_,rfl,_,_,rfl,rfl,⟨by decide,by decide⟩,two,λt ht=>?_⟩;have s3:=Same.up (o:=.tup [.int ((0+(i:Int)) % 4),.int ((0+(i:Int)) / 4)]) ht
   have e3:upd H2 t (.tup [.int ((0+(i:Int)) % 4),.int ((0+(i:Int)) / 4)]) t=some (.tup (cellT (((i % 4:Nat):Int),((i / 4:Nat):Int)))):=by rw[zaa];show some (HO.tup [V.int ((0+(i:Int)) % 4),V.int ((0+(i:Int)) / 4)])=some (HO.tup [V.int ((i % 4:Nat):Int),V.int ((i / 4:Nat):Int)]);rw[show (0+(i:Int)) % 4=((i % 4:Nat):Int) by lia,show (0+(i:Int)) / 4=((i / 4:Nat):Int) by lia]
   have e23:=s3 _ _ e2;refine⟨us,e23,zay (by rw[v2.1,Am,List.length_range];lia),_,us++[.ref t],rfl,zar hq (s2.trans s3),zaa,?_⟩;rw[List.range_succ,Bc];exact v2.snoc (λx v h=>(h.kt (KT.of s3)).kt (KT.lst e23)) ⟨t,rfl,KT.lst e23 _ _ e3⟩
  .rintro σ H2 ⟨o,us,rfl,s2,e2,v2⟩;exact k q H2 us hq s2 e2 v2
theorem zgv(s:Nat):∀(l:List Nat) (c:Cell),lawC c (l++[s])=lawC c l++[endC c l]
 |[],_=>rfl
 |t::l,c=>by show c::lawC (go c t) (l++[s])=_;rw[zgv s l];rfl
theorem zgu(s:Nat):∀(l:List Nat) (c:Cell) (w:Nat),lawG c w (l++[s])=lawG c w l++gapG (endC c l) (dgo w l).2 s
 |[],c,w=>by show gapG c w s++[]=[]++gapG c w s;rw[AH,B7]
 |t::l,c,w=>by show gapG c w t++lawG (go c t) (wayB t) (l++[s])=_;rw[zgu s l,<- AC];rfl
theorem zgt(s:Nat):∀(l:List Nat) (w:Nat),lawN w (l++[s])=lawN w l+nLf (dgo w l).2 s
 |[],w=>by show nLf w s+0=0+nLf w s;lia
 |t::l,w=>by
  show nLf w t+lawN (wayB t) (l++[s])=nLf w t+lawN (wayB t) l+_;rw[zgt s l,<- Nat.add_assoc];rfl
theorem zjl(s:Nat)(l:List Nat):nOdd (l++[s])=nOdd l+s % 2:=by
 unfold nOdd;rw[C1,Af,BG]
 by_cases h:s % 2=1
 .rw[if_pos (decide_eq_true h),h];rfl
 .rw[if_neg (by simpa using h),show s % 2=0 by lia];rfl
theorem zgs(c:Cell):∀(p w:Nat),w<4->lefG c (p+1) w=lefG c p w++[go c (2*((w+p) % 4)),go c ((2*((w+p) % 4)+7) % 8),gap ⟨c,((w+p) % 4+1) % 4⟩]
 | 0,w,h=>by
  show [go c (2*w),go c ((2*w+7) % 8),gap ⟨c,(w+1) % 4⟩]=_;simp only[BU,Br h];rfl
 |p+1,w,h=>by
  have ih:=zgs c p ((w+1) % 4) (Bj _ (by decide));rw[show ((w+1) % 4+p) % 4=(w+(p+1)) % 4 by lia]at ih;show go c (2*w)::go c ((2*w+7) % 8)::gap ⟨c,(w+1) % 4⟩::lefG c (p+1) ((w+1) % 4)=_;rw[ih];rfl
theorem zfC(c:Cell):∀(n w:Nat),(lefG c n w).length=3*n
 | 0,_=>rfl
 |n+1,w=>by show (lefG c n ((w+1) % 4)).length+1+1+1=_;rw[zfC c n];lia
theorem zkt(c:Cell)(w s:Nat):(gapG c w s).length<=11:=by unfold gapG;rw[AS,Af,zfC];have:=zgm w s;split <;> simp <;> lia
theorem zdF:∀(l:List Nat) (c:Cell) (w:Nat),(lawG c w l).length<=11*l.length
 |[],_,_=>Ai _
 |s::l,c,w=>by
  show (gapG c w s++lawG (go c s) (wayB s) l).length<=11*(l.length+1);rw[Af];have:=zkt c w s;have:=zdF l (go c s) (wayB s);lia
theorem zfE:∀(l:List Nat) (c:Cell),(lawC c l).length=l.length
 |[],_=>rfl
 |s::l,c=>by show (lawC (go c s) l).length+1=_;rw[zfE l];rfl
theorem VR.app{α:Type}{vs ws:List V}{l m:List α}{R:α->V->Hp->Prop}{H:Hp}(h:VR vs l R H)(k:VR ws m R H):VR (vs++ws) (l++m) R H:=by
 refine⟨by rw[Af,Af,h.1,k.1],λi x v h1 h2=>?_⟩
 by_cases hi:i<l.length
 .rw[Ar hi]at h1;rw[Ar (by rw[h.1];exact hi)]at h2;exact h.2 i x v h1 h2
 .rw[AJ (by lia)]at h1;rw[AJ (by rw[h.1];lia),h.1]at h2;exact k.2 _ x v h1 h2
theorem zf0{A:Prop}{D:Hp->Prop}(C:Hp->Prop)(g:(∀H1,D H1->C H1)->A)(h:∀H1,D H1->C H1):A:=g h
theorem za5{n:Nat}(h:n<=6000):n<sizeLine:=Bt h (by decide)
structure WlI (H:Hp) (c1 c2:Addr) (H2:Hp) (A B:List Cell):Prop where
 same:Same H H2
 new1:H c1=none
 new2:H c2=none
 ne:c1≠c2
 ex1:∃us,H2 c1=some (.lst us)/\VR us A cR H2
 ex2:∃ws,H2 c2=some (.lst ws)/\VR ws B cR H2
theorem WlI.up{H H2 H3:Hp}{c1 c2:Addr}{A B:List Cell}(h:WlI H c1 c2 H2 A B)(s:Same H2 H3):WlI H c1 c2 H3 A B :=
 ⟨h.same.trans s,h.new1,h.new2,h.ne,(let ⟨us,e,v⟩:=h.ex1;⟨us,s _ _ e,v.mono λx v q=>q.kt (KT.of s)⟩),(let ⟨ws,e,v⟩:=h.ex2;⟨ws,s _ _ e,v.mono λx v q=>q.kt (KT.of s)⟩)⟩
theorem WlI.app1{H H3:Hp}{c1 c2:Addr}{A B T:List Cell}{us zs:List V}(h:WlI H c1 c2 H3 A B)(e:H3 c1=some (.lst us))(v:VR us A cR H3)(z:VR zs T cR H3):WlI H c1 c2 (upd H3 c1 (.lst (us++zs))) (A++T) B:=by have kt:KT H3 (upd H3 c1 (.lst (us++zs))):=KT.lst e;obtain⟨ws,e2,v2⟩:=h.ex2;exact⟨zar h.new1 h.same,h.new1,h.new2,h.ne,⟨_,zaa,(v.mono λx v q=>q.kt kt).app (z.mono λx v q=>q.kt kt)⟩,⟨ws,by rw[zam (B8 h.ne)];exact e2,v2.mono λx v q=>q.kt kt⟩⟩
theorem WlI.app2{H H3:Hp}{c1 c2:Addr}{A B T:List Cell}{ws zs:List V}(h:WlI H c1 c2 H3 A B)(e:H3 c2=some (.lst ws))(v:VR ws B cR H3)(z:VR zs T cR H3):WlI H c1 c2 (upd H3 c2 (.lst (ws++zs))) A (B++T):=by have kt:KT H3 (upd H3 c2 (.lst (ws++zs))):=KT.lst e;obtain⟨us,e1,v1⟩:=h.ex1;exact⟨zar h.new2 h.same,h.new1,h.new2,h.ne,⟨us,by rw[zam h.ne];exact e1,v1.mono λx v q=>q.kt kt⟩,⟨_,zaa,(v.mono λx v q=>q.kt kt).app (z.mono λx v q=>q.kt kt)⟩⟩
noncomputable def ziE(K:W.Frag):Sp:=λvs H Q _=>∃(x y:Int) (b:Addr) (row:List Nat),vs=[.int x,.int y,.ref b]/\SqT K H b (rowV row)/\row≠[]/\(∀s∈row,s<8)/\row.length<=480 /\
 ∀p H' c1 c2 t us ws,H p=none->Same H H'->H' p=some (.tup [.ref c1,.ref c2,.int ((lawN (pw row 0) row:Int)-nOdd row),.ref t])->H' c1=some (.lst us)->VR us (lawC (x,y) row) cR H'->H' c2=some (.lst ws)->VR ws (lawG (x,y) (pw row 0) row) cR H'->H' t=some (.tup (cellT (endC (x,y) row)))->Q (.ref p) H'
theorem zg2 (g__law_beside:Fn P w K mg base 2 "_law_beside" ["_law_x","_law_y","_law_step"] zdB) (d:Df K mg "_law_walk" zcH ["_law_x","_law_y","_law_row"]):FnOk P w K mg base CX0 3 d.f d.fd ["_law_x","_law_y","_law_row"] (ziE K):=by
 refine d.F.ok zaB (λvs H Q E h=>?_) (λcdv A outer s H vs Q E hr h=>?_)
 .obtain⟨x,y,b,row,rfl,_⟩:=h;rfl
 .obtain⟨x,y,b,row,rfl,hq,hne,h8,hlen,k⟩:=h
  refine⟨_,(zac (sE 3 zaB.nd (zaX zad))
   (zac (sE 4 zaB.nd (zaX zad))
   (zac (sE 5 zaB.nd zab)
   (zac (sE 6 zaB.nd (pe_op zbU (pe_ix zat (pv 2) (pe_un zeK zab) (λ_ _=>rfl)) zab))
   (zac (zbI Bd rfl (zdX (pv 2)) (nG 7 zaB.nd)
   (zac (za8 (pe_bm AT AY AZ zaP (pv 3) (pa_T (zav (pa_N (pv 0) (pa_N (pv 1) zad))) zad)))
   (zac (za8 (pe_bm AT AY AZ zaP (pv 4) (zag (pC g__law_beside hr (pa_N (pv 0) (pa_N (pv 1) (pa_B (pe_op zaF (pe_op zbK zab (pv 6)) zab) zad)))) zad)))
   (zac (zfg Bd (zao op_ne (pv 6) (pe_op zaN (pe_op zbU (pe_op zaF (pv 7) zab) zab) zab) (zan _))
   (zac (za8 (pe_bm AT PySem.F.slot_list_extend PySem.F.type_list_extend zgn (pv 4) (zag (zaX (zag (pC g__law_beside hr (pa_N (pv 0) (pa_N (pv 1) (pa_B (pe_op zbK zab (pv 6)) zad)))) (zag (pC g__law_beside hr (pa_N (pv 0) (pa_N (pv 1) (pa_B (pe_op zaF (pe_op zbK zab (pv 6)) zab) zad)))) zad))) zad)))
   (zac (sE 6 zaB.nd (pe_op zaN (pe_op zaF (pv 6) zab) zab))
   (zac (sE 5 zaB.nd (pe_op zaF (pv 5) zab))
   (zaf (za8 (pe_bm AT AY AZ zaP (pv 4) (zag (pC g__law_beside hr (pa_N (pv 0) (pa_N (pv 1) (pa_B (pe_op zaF (pe_op zbK zab (pv 6)) zab) zad)))) zad))))))))
   (zac (ps_if (zao op_eq (pe_op zaN (pv 7) zab) zab (zan _))
   (zaf (za8 (pe_bm AT AY AZ zaP (pv 4) (zag (pC g__law_beside hr (pa_N (pv 0) (pa_N (pv 1) (pa_B (pe_op zaF (pe_op zbK zab (pv 6)) zab) zad)))) zad))))
   zas)
   (zac (zbw (pC g__law_beside hr (pa_N (pv 0) (pa_N (pv 1) (pa_N (pv 7) zad)))) (zbl (by rfl) (zah (nG 0 zaB.nd) (zah (nG 1 zaB.nd) zaG))))
   (zac (sE 6 zaB.nd (pe_op zbU (pv 7) zab))
   (zaf (sE 5 zaB.nd (pe_op zbi (pv 5) (pe_op zaN (pv 7) zab)))))))))))
   (zaf (zaj (zav (pa_N (pv 3) (pa_N (pv 4) (pa_N (pv 5) (pa_T (zav (pa_N (pv 0) (pa_N (pv 1) zad))) zad)))))))))))),?_⟩
  have hσ:L2.start zen [.int x,.int y,.ref b]=[some (.int x),some (.int y),some (.ref b),none,none,none,none,none]:=rfl;rw[hσ];have hl0:=B3.mpr hne;have hrl:(rowV row).length=row.length:=Am ..;refine⟨(by show 0<=sizeLine;decide),λc1 hc1=>?_⟩;simp only[zau,Ax,Ay];have s1:=Same.up (o:=.lst []) hc1;have e1:upd H c1 (.lst []) c1=some (.lst []):=zaa;generalize upd H c1 (.lst [])=H1 at s1 e1 ⊢;refine⟨(by show 0<=sizeLine;decide),λc2 hc2=>?_⟩;simp only[zau,Ax,Ay];have hn12:c1≠c2:=λz=>by rw[<- z,e1]at hc2;cases hc2
  have s2:=Same.up (o:=.lst []) hc2;have I0:WlI H c1 c2 (upd H1 c2 (.lst [])) [] []:=⟨s1.trans s2,hc1,s1.free hc2,hn12,⟨[],s2 _ _ e1,VR.nil⟩,⟨[],zaa,VR.nil⟩⟩;generalize upd H1 c2 (.lst [])=H2 at s2 I0 ⊢
  have hlast:(rowV row)[(rowV row).length-1]?=some (.int (row.getD (row.length-1) 0:Nat)):=by rw[hrl];unfold rowV;rw[AI,AB,Aa (show row.length-1<row.length by lia)];rfl
  have hs8:row.getD (row.length-1) 0<8:=by rw[AB,Aa (show row.length-1<row.length by lia)];exact h8 _ (A3 _)
  have hp0:((row.getD (row.length-1) 0:Nat):Int) / 2=((pw row 0:Nat):Int):=by unfold pw wayB zak;rw[Cf,Br (show row.length-1<row.length by lia)];generalize row.getD (row.length-1) 0=z at hs8;lia
  refine⟨_,rfl,_,rfl,b,_,_,_,rfl,rfl,I0.same.seqT hq,(zfO (by lia)).trans hlast,_,_,rfl,rfl,⟨by decide,by decide⟩,?_⟩;simp only[zau,Ax,Ay];rw[hp0];have hw0:=pw_lt row 0;generalize hw0e:pw row 0=w0 at hw0 k ⊢;refine⟨_,rfl,b,rfl,⟨_,I0.same.seqT hq⟩,?_⟩
  refine zdh (K:=K) (a:=b) (xs:=rowV row) (λj σ H5=>∃(cx cy:Int) (o7:Option V),σ=[some (.int cx),some (.int cy),some (.ref b),some (.ref c1),some (.ref c2),some (.int ((lawN w0 (row.take j):Int)-nOdd (row.take j))),some (.int ((dgo w0 (row.take j)).2:Nat)),o7]/\(cx,cy)=endC (x,y) (row.take j)/\WlI H c1 c2 H5 (lawC (x,y) (row.take j)) (lawG (x,y) w0 (row.take j)))
   ⟨x,y,_,rfl,rfl,I0⟩ (λj σ H5 _ ⟨_,_,_,_,_,I5⟩=>I5.same.seqT hq) ?_ ?_
  .rintro j v σ H5 hj ⟨cx,cy,o7,rfl,hcc,I5⟩;have hjl:j<row.length:=by have:=(Ac.mp hj).1;rw[hrl]at this;exact this
   have hrj:row[j]?=some row[j]:=Aa hjl;unfold rowV at hj;rw[AI,hrj]at hj
   cases hj
   have hs8:=h8 _ (A3 hjl);generalize hst:row[j]=st at hrj hs8;simp only[zau,Ax,Ay];have hg4:zak st<4:=Bj _ (by decide);have hgI:((st:Int)+1) / 2 % 4=((zak st:Nat):Int):=by unfold zak;lia
   have hW4:=zdk (row.take j) w0 hw0;have snC:=zgv st (row.take j) (x,y);have snG:=zgu st (row.take j) (x,y) w0;have snN:=zgt st (row.take j) w0;have snO:=zjl st (row.take j);have snW:(dgo w0 (row.take j++[st])).2=wayB st:=by rw[zc1]
   have snE:=zeb (row.take j) (x,y) st;have lnC:=zfE (row.take j) (x,y);have lnG:=zdF (row.take j) (x,y) w0;have lnT:(row.take j).length<=480:=by rw[AX];lia
   rw[zaC hrj];rw[<- hcc]at snC snG snE;generalize row.take j=tk at *;generalize hW:(dgo w0 tk).2=W at hW4 snG snN ⊢;generalize lawC (x,y) tk=A5 at *;generalize lawG (x,y) w0 tk=B5 at *;obtain⟨us5,f5,v5⟩:=I5.ex1;refine⟨_,rfl,.inl ⟨rfl,_,SqL.of f5⟩,_,rfl,_,rfl,two,λt6 ht6=>?_⟩;have s6:=Same.up (o:=.tup [.int cx,.int cy]) ht6;have e6:upd H5 t6 (.tup [.int cx,.int cy]) t6=some (.tup (cellT (cx,cy))):=zaa;generalize upd H5 t6 (.tup [.int cx,.int cy])=H6 at s6 e6 ⊢;have I6:=I5.up s6;have v6:VR us5 A5 cR H6:=v5.mono λx v h=>h.kt (KT.of s6)
   refine⟨c1,us5,_,rfl,rfl,s6 _ _ f5,za5 (by rw[v6.1];lia),?_⟩;have I7:=I6.app1 (zs:=[.ref t6]) (T:=[(cx,cy)]) (s6 _ _ f5) v6 (VR.cons.mpr ⟨⟨t6,rfl,e6⟩,VR.nil⟩);rw[<- snC]at I7;generalize upd H6 c1 (.lst (us5++[.ref t6]))=H7 at I7 ⊢;obtain⟨ws7,f7,v7⟩:=I7.ex2;refine⟨_,rfl,.inl ⟨rfl,_,SqL.of f7⟩,_,rfl,_,rfl,_,rfl,_,_,rfl,rfl,.inl ⟨by decide,by decide⟩,_,_,rfl,rfl,cx,cy,_,rfl,λt8 H8 ht8 s8 e8=>?_⟩;have v8:VR ws7 B5 cR H8:=v7.mono λx v h=>h.kt (KT.of s8)
   rw[show ((2*(W:Int)+6) % 8).toNat=(2*W+6) % 8 by lia]at e8;refine⟨c2,ws7,_,rfl,rfl,s8 _ _ f7,za5 (by rw[v8.1];lia),?_⟩;have I9:=(I7.up s8).app2 (zs:=[.ref t8]) (T:=[gap ⟨(cx,cy),W⟩]) (s8 _ _ f7) v8 (VR.cons.mpr ⟨⟨t8,rfl,e8⟩,VR.nil⟩);generalize upd H8 c2 (.lst (ws7++[.ref t8]))=H9 at I9 ⊢;refine⟨λm σ H6=>∃p:Nat,σ=[some (.int cx),some (.int cy),some (.ref b),some (.ref c1),some (.ref c2),some (.int ((lawN w0 tk:Int)-nOdd tk+p)),some (.int (((W+p) % 4:Nat):Int)),some (.int (st:Int))]/\m+p=nLf W st/\WlI H c1 c2 H6 (lawC (x,y) (tk++[st])) (B5++[gap ⟨(cx,cy),W⟩]++lefG (cx,cy) p W),⟨_,0,?_,BU _,?_⟩,?_⟩
   .rw[BU,Br hW4,show ((lawN w0 tk:Int)-nOdd tk+((0:Nat):Int))=(lawN w0 tk:Int)-nOdd tk by lia]
   .show WlI H c1 c2 H9 _ (_++[]);rw[AH];exact I9
   rintro m σ H10 ⟨p,rfl,hm,I10⟩;have hp4:(W+p) % 4<4:=Bj _ (by decide);have hp3:p<=3:=by have:=zgm W st;lia
   have hfin:=zcM (s:=st) hW4;refine⟨_,rfl,_,rfl,_,_,rfl,rfl,_,_,rfl,rfl,⟨by decide,by decide⟩,_,_,rfl,rfl,(by show (0:Int)<4;decide),rfl,_,rfl,?_⟩
   by_cases hz:(W+p) % 4=zak st
   .have hpe:p=nLf W st := by have:=zgm W st;lia
    have hnp:lawN w0 (tk++[st])=lawN w0 tk+p:=by rw[snN,hpe]
    refine iteN ?_ ?_
    .show (!decide (V.int (((W+p) % 4:Nat):Int)=V.int (((st:Int)+1) / 2 % 4)))=false;rw[hgI,hz,decide_eq_true rfl];rfl
    rw[hz]
    have hB:B5++[gap ⟨(cx,cy),W⟩]++lefG (cx,cy) p W++(if st % 2=0 then [go (cx,cy) ((2*zak st+7) % 8)] else [])=lawG (x,y) w0 (tk++[st]):=by rw[snG,hpe];unfold gapG;simp only[AC,List.singleton_append,List.cons_append,B7]
    refine zf0 (D:=λH11=>WlI H c1 c2 H11 (lawC (x,y) (tk++[st])) (lawG (x,y) w0 (tk++[st]))) ?C (λshare=>?g) ?h
    case g =>
     refine⟨_,rfl,_,_,rfl,rfl,(by show (0:Int)<2;decide),rfl,_,rfl,?_⟩;have hev:decide (V.int ((st:Int) % 2)=V.int 0)=decide (st % 2=0):=decide_eq_decide.mpr ⟨λz=>by injection z with z;lia,λz=>congrArg V.int (by lia)⟩
     by_cases he:st % 2=0
     .refine iteY (hev.trans (decide_eq_true he)) ?_
      rw[if_pos he]at hB;obtain⟨ws10,f10,v10⟩:=I10.ex2;refine⟨_,rfl,.inl ⟨rfl,_,SqL.of f10⟩,_,rfl,_,rfl,_,rfl,_,_,rfl,rfl,.inl ⟨by decide,by decide⟩,_,_,rfl,rfl,cx,cy,_,rfl,λt11 H11 ht11 s11 e11=>?_⟩;have v11:=v10.mono λx v h=>h.kt (KT.of s11)
      rw[show ((2*((zak st:Nat):Int)+7) % 8).toNat=(2*zak st+7) % 8 by lia]at e11
      have hl10:ws10.length<=5999:=by have:=congrArg List.length hB;have lnG2:=zdF (tk++[st]) (x,y) w0;rw[Af,<- v10.1]at this;rw[Af]at lnG2;simp only[BR]at this lnG2;lia
      refine⟨c2,ws10,_,rfl,rfl,s11 _ _ f10,za5 (by lia),?_⟩;have I12:=(I10.up s11).app2 (zs:=[.ref t11]) (T:=[go (cx,cy) ((2*zak st+7) % 8)]) (s11 _ _ f10) v11 (VR.cons.mpr ⟨⟨t11,rfl,e11⟩,VR.nil⟩);rw[hB]at I12;generalize upd H11 c2 (.lst (ws10++[.ref t11]))=H12 at I12 ⊢;exact share H12 I12
     .refine iteN (hev.trans (decide_eq_false he)) ?_
      rw[if_neg he,AH]at hB;rw[hB]at I10;exact share H10 I10
    case h =>
     rintro H11 I11;refine⟨_,rfl,_,rfl,_,rfl,cx,cy,_,rfl,λt12 H12 ht12 s12 e12=>?_⟩;refine⟨t12,_,rfl,SqT.of e12,rfl,_,_,rfl,_,_,rfl,rfl,?_⟩;simp only[zau,Ax,Ay];rw[show ((st:Int) % 8).toNat=st by lia,<- snE];refine⟨_,rfl,_,_,rfl,rfl,⟨by decide,by decide⟩,?_⟩;simp only[zau,Ax,Ay];refine⟨_,rfl,_,rfl,_,_,rfl,rfl,(by show (0:Int)<2;decide),_,_,rfl,rfl,?_⟩;simp only[zau,Ax,Ay];have hwB:(st:Int) / 2=((wayB st:Nat):Int):=by unfold wayB zak;lia
     refine⟨(endC (x,y) (tk++[st])).1,(endC (x,y) (tk++[st])).2,some (.int (st:Int)),?_,rfl,I11.up s12⟩;rw[snW,hwB,hnp,snO,show ((lawN w0 tk:Int)-nOdd tk+p-(st:Int) % 2)=(((lawN w0 tk+p:Nat):Int)-((nOdd tk+st % 2:Nat):Int)) by lia]
   .refine iteY ?_ ?_
    .show (!decide (V.int (((W+p) % 4:Nat):Int)=V.int (((st:Int)+1) / 2 % 4)))=true;rw[hgI,decide_eq_false (λq=>hz (by injection q with q;lia))];rfl
    have hm0:0<m:=by
     rcases BF m with z |z
     .exact absurd (by rw[show p=nLf W st by lia];exact hfin) hz
     .exact z
    refine⟨λσ H7=>∃p:Nat,σ=[some (.int cx),some (.int cy),some (.ref b),some (.ref c1),some (.ref c2),some (.int ((lawN w0 tk:Int)-nOdd tk+p)),some (.int (((W+p) % 4:Nat):Int)),some (.int (st:Int))]/\(m-1)+p=nLf W st/\WlI H c1 c2 H7 (lawC (x,y) (tk++[st])) (B5++[gap ⟨(cx,cy),W⟩]++lefG (cx,cy) p W),λσ' H' h=>⟨m-1,by lia,h⟩,?_⟩;have hLf:=zgs (cx,cy) p W hW4;obtain⟨ws10,f10,v10⟩:=I10.ex2
    have hwl:ws10.length<=5900:=by rw[v10.1,Af,Af,zfC,BR];lia
    generalize hWp:(W+p) % 4=Wp at hp4 hz hLf ⊢;refine⟨_,rfl,.inl ⟨rfl,_,SqL.of f10⟩,_,rfl,_,rfl,_,rfl,_,_,rfl,rfl,.inl ⟨by decide,by decide⟩,cx,cy,_,rfl,λt11 H11 ht11 s11 e11=>?_⟩;refine⟨_,rfl,_,rfl,_,rfl,_,_,rfl,rfl,.inl ⟨by decide,by decide⟩,_,_,rfl,rfl,cx,cy,_,rfl,λt12 H12 ht12 s12 e12=>?_⟩;rw[show ((2*(Wp:Int)) % 8).toNat=2*Wp by lia]at e11;rw[show ((2*(Wp:Int)+7) % 8).toNat=(2*Wp+7) % 8 by lia]at e12;refine⟨two,λl13 hl13=>?_⟩;have s13:=Same.up (o:=.lst [.ref t11,.ref t12]) hl13;have e13:upd H12 l13 (.lst [.ref t11,.ref t12]) l13=some (.lst [.ref t11,.ref t12]):=zaa;generalize upd H12 l13 (.lst [.ref t11,.ref t12])=H13 at s13 e13 ⊢;have s1013:=s11.trans (s12.trans s13);have v13:=v10.mono (H':=H13) λx v h=>h.kt (KT.of s1013)
    have z13:VR [.ref t11,.ref t12] [go (cx,cy) (2*Wp),go (cx,cy) ((2*Wp+7) % 8)] cR H13:=VR.cons.mpr ⟨⟨t11,rfl,(s12.trans s13) _ _ e11⟩,VR.cons.mpr ⟨⟨t12,rfl,s13 _ _ e12⟩,VR.nil⟩⟩;refine⟨c2,l13,_,_,rfl,rfl,s1013 _ _ f10,e13,A7 (za5 (by show ws10.length+2<=6000;lia)),?_⟩;have I14:=(I10.up s1013).app2 (s1013 _ _ f10) v13 z13;generalize upd H13 c2 (.lst (ws10++[.ref t11,.ref t12]))=H14 at I14 ⊢;refine⟨_,rfl,_,_,rfl,rfl,_,_,rfl,rfl,(by show (0:Int)<4;decide),?_⟩;simp only[zau,Ax,Ay];have hw1:((Wp:Int)+1) % 4=(((Wp+1) % 4:Nat):Int):=by lia
    rw[hw1];refine⟨_,rfl,_,_,rfl,rfl,?_⟩;simp only[zau,Ax,Ay];obtain⟨ws14,f14,v14⟩:=I14.ex2
    have hwl2:ws14.length<=5990:=by rw[v14.1,Af,<- v10.1];show ws10.length+2<=5990;lia
    refine⟨_,rfl,.inl ⟨rfl,_,SqL.of f14⟩,_,rfl,_,rfl,_,rfl,_,_,rfl,rfl,.inl ⟨by decide,by decide⟩,_,_,rfl,rfl,cx,cy,_,rfl,λt15 H15 ht15 s15 e15=>?_⟩;have v15:=v14.mono (H':=H15) λx v h=>h.kt (KT.of s15)
    rw[show ((2*(((Wp+1) % 4:Nat):Int)+6) % 8).toNat=(2*((Wp+1) % 4)+6) % 8 by lia]at e15;refine⟨c2,ws14,_,rfl,rfl,s15 _ _ f14,za5 (by lia),?_⟩;have I16:=(I14.up s15).app2 (zs:=[.ref t15]) (T:=[gap ⟨(cx,cy),(Wp+1) % 4⟩]) (s15 _ _ f14) v15 (VR.cons.mpr ⟨⟨t15,rfl,e15⟩,VR.nil⟩);generalize upd H15 c2 (.lst (ws14++[.ref t15]))=H16 at I16 ⊢;refine⟨p+1,?_,by lia,?_⟩
    .rw[show (W+(p+1)) % 4=(Wp+1) % 4 by lia,show ((lawN w0 tk:Int)-nOdd tk+p+1)=(lawN w0 tk:Int)-nOdd tk+((p+1:Nat):Int) by lia]
    .rw[hLf];have e:B5++[gap ⟨(cx,cy),W⟩]++(lefG (cx,cy) p W++[go (cx,cy) (2*Wp),go (cx,cy) ((2*Wp+7) % 8),gap ⟨(cx,cy),(Wp+1) % 4⟩])=B5++[gap ⟨(cx,cy),W⟩]++lefG (cx,cy) p W++[go (cx,cy) (2*Wp),go (cx,cy) ((2*Wp+7) % 8)]++[gap ⟨(cx,cy),(Wp+1) % 4⟩]:=by simp only[AC,List.cons_append,B7]
     rw[e];exact I16
  .rintro σ H5 ⟨cx,cy,o7,rfl,hcc,I5⟩;rw[hrl,AL]at hcc I5 ⊢;obtain⟨us5,f5,v5⟩:=I5.ex1;obtain⟨ws5,f6,v6⟩:=I5.ex2;refine⟨_,rfl,_,rfl,_,rfl,_,rfl,_,rfl,two,λt ht=>?_⟩;have s6:=Same.up (o:=.tup [.int cx,.int cy]) ht;have e6:upd H5 t (.tup [.int cx,.int cy]) t=some (.tup (cellT (cx,cy))):=zaa;generalize upd H5 t (.tup [.int cx,.int cy])=H6 at s6 e6 ⊢;refine⟨four,λp hp=>?_⟩;have s7:=Same.up (o:=.tup [.ref c1,.ref c2,.int ((lawN w0 row:Int)-nOdd row),.ref t]) hp;refine k p _ c1 c2 t us5 ws5 (I5.same.free (s6.free hp)) (I5.same.trans (s6.trans s7)) zaa (s7 _ _ (s6 _ _ f5)) (v5.mono λx v h=>h.kt (KT.of (s6.trans s7))) (s7 _ _ (s6 _ _ f6)) (v6.mono λx v h=>h.kt (KT.of (s6.trans s7))) ?_
   rw[<- hcc];exact s7 _ _ e6
noncomputable def zcs(c:Cell)(row:List Nat)(so:Str):Prop:=endC c row=c/\((lawN (pw row 0) row:Int)-nOdd row)=moreL so/\¬ ∃g∈lawG c (pw row 0) row,g∈lawC c row
theorem zmt{a b:Cell}(h:[a.1,a.2]=[b.1,b.2]):a=b:=by injection h with h1 h2;injection h2 with h2 _;exact Prod.ext h1 h2
noncomputable def ziK(K:W.Frag):Sp:=λvs H Q _=>∃(v:V) (r:Rnd) (b:Addr) (row:List Nat),vs=[v,.ref b]/\rR r v H/\SoOk r/\SqT K H b (rowV row)/\row≠[]/\(∀s∈row,s<8)/\row.length<=480 /\
 ∀bv H',(bv=true ↔ zcs (r.x,r.y) row r.so)->Same H H'->Q (.bl bv) H'
theorem zev (T:Txt P w K mg) (g__law_walk:Fn P w K mg base 3 "_law_walk" ["_law_x","_law_y","_law_row"] (ziE K)) (d:Df K mg "_law_is_good" zbs ["_law_one","_law_row"]):FnOk P w K mg base CX0 4 d.f d.fd ["_law_one","_law_row"] (ziK K):=by
 refine d.F.ok zaM (λvs H Q E h=>?_) (λcdv A outer s H vs Q E hr h=>?_)
 .obtain⟨v,r,b,row,rfl,_⟩:=h;rfl
 .obtain⟨v,r,b,row,rfl,hv,hso,hq,hne,h8,hlen,k⟩:=h;have hu1:=hu_of hr;have hu64:=hr.units;have nb0:(["_law_gap","_law_there"]:List Str).Nodup:=by decide +kernel
  refine⟨_,(zac (zbw (pC g__law_walk hr (zag (pe_ix zat (pv 0) zab (λ_ _=>rfl)) (zag (pe_ix zat (pv 0) zab (λ_ _=>rfl)) (pa_N (pv 1) zad)))) (zbl (by rfl) (zah (nG 2 zaM.nd) (zah (nG 3 zaM.nd) (zah (nG 4 zaM.nd) (zah (nG 5 zaM.nd) zaG))))))
   (zac (zi4 (i:=6) zaM.nd (by rfl) (Or.inr rfl) zfi)
   (zac (zbI Bd rfl (zaS (pv 2)) (nG 7 zaM.nd)
   (zaf (zi5 hu1 (pv 6) (pv 7) pe_bl rfl)))
   (zac (ps_if (pw_or (zao (zkO hu64) (pv 5) (zav (zag (pe_ix zat (pv 0) zab (λ_ _=>rfl)) (zag (pe_ix zat (pv 0) zab (λ_ _=>rfl)) zad))) (zan _)) (zf9 (zao op_ne (pv 4) (pe_ix zaE (zaX (pa_C zab (pa_U (pe_un zeK zab) zad))) (zbJ zc7 (by rfl) T.nint (by rfl) (zag (zaT op_eq (pe_ix zat (pv 0) zab (λ_ _=>rfl)) zdo (zan _)) zad)) (λ_ _=>rfl)) (zan _)))).pt
   (zaf (zaj pe_bl))
   zas)
   (zaf (zaj (zjb (zaw (zgF rfl) (by rfl) T.nany (by rfl) (zag (za3 (osc:=zae zbs) (N:=zbX) (N':=["_law_gap","_law_there"]) (sel:=[none,some 6]) bO (zaS (pv 3)) (λ_ _ _ _ _=>(nG 0 nb0)) (λ_ _ _ _ _=>zbq) (λ_ _ _ _ _=>(zma (zkL hu1 (pv 0) (pv 1))))) zad))))))))),?_⟩
  obtain⟨a,br,rfl,q1,q2⟩:=id hv;have hσ:L2.start zbX [.ref a,.ref b]=[some (.ref a),some (.ref b),none,none,none,none,none,none]:=rfl;rw[hσ];refine⟨_,rfl,a,_,_,_,rfl,rfl,SqT.of q1,zai (j:=1) rfl,_,rfl,a,_,_,_,rfl,rfl,SqT.of q1,zai (j:=2) rfl,_,rfl,r.x,r.y,b,row,rfl,hq,hne,h8,hlen,λp H1 c1 c2 t us ws hp s1 e1 f1 v1 f2 v2 et=>?_⟩;refine⟨p,_,rfl,SqT.of e1,rfl,_,_,rfl,_,_,rfl,_,_,rfl,_,_,rfl,rfl,?_⟩;simp only[zau,Ax,Ay];refine λdd hdd=>?_
  simp only[Ax,Ay];have s2:=Same.up (o:=.dT []) hdd;have d2:upd H1 dd (.dT []) dd=some (.dT []):=zaa;generalize upd H1 dd (.dT [])=H2 at s2 d2 ⊢;refine⟨_,rfl,c1,rfl,⟨_,SqL.of (s2 _ _ f1)⟩,?_⟩;have lC:=zfE row (r.x,r.y);have lG:=zdF row (r.x,r.y) (pw row 0)
  refine zaH (K:=K) (a:=c1) (xs:=us) (λj σ H3=>∃(o7:Option V) (kvs:List (List Key×V)),σ=[some (.ref a),some (.ref b),some (.ref c1),some (.ref c2),some (.int ((lawN (pw row 0) row:Int)-nOdd row)),some (.ref t),some (.ref dd),o7]/\(∀z o,z≠dd->H2 z=some o->H3 z=some o)/\H3 dd=some (.dT kvs)/\(∀c,(valV kvs (kC c)).isSome=decide (c∈(lawC (r.x,r.y) row).take j))/\kvs.length<=j)
   ⟨_,[],rfl,(λz o _ h=>h),d2,(λc=>by simp[valV]),Ai _⟩ (λj σ H3 _ ⟨_,_,_,k3,_⟩=>SqL.of (k3 _ _ (zal f1 hdd) (s2 _ _ f1))) ?_ ?_
  .rintro j u σ H3 hj ⟨o7,kvs,rfl,k3,d3,hk3,hl3⟩;obtain⟨c,hc,bb,rfl,qb⟩:=v1.at hj;have hjl:j<(lawC (r.x,r.y) row).length:=(Ac.mp hc).1;simp only[zau,Ax,Ay];have nb:bb≠dd:=zal qb hdd;refine⟨_,rfl,_,rfl,dd,_,rfl,.inr ⟨kvs,kC c,bb,d3,rfl,k3 _ _ nb (s2 _ _ qb),zay (by lia),rfl⟩,?_⟩;refine⟨_,_,rfl,(λz o hz h=>by rw[zam hz];exact k3 z o hz h),zaa,(λg=>?_),Bf (zaV _ _ _) (by lia)⟩;rw[zdx]
   by_cases eg:g=c
   .rw[if_pos (zgy.mpr eg),decide_eq_true ((za6 hc).mpr (.inr eg))];rfl
   .rw[if_neg (λz=>eg (zgy.mp z)),hk3];exact decide_eq_decide.mpr ⟨λz=>(za6 hc).mpr (.inl z),λz=>((za6 hc).mp z).resolve_right eg⟩
  .rintro σ H3 ⟨o7,kvs,rfl,k3,d3,hk3,hl3⟩;rw[v1.1,AL]at hk3;have s3:Same H1 H3:=λz o h=>k3 z o (zal h hdd) (s2 _ _ h)
   have s03:=s1.trans s3;refine⟨_,rfl,_,rfl,a,_,_,_,rfl,rfl,SqT.of (s03 _ _ q1),zai (j:=1) rfl,_,rfl,a,_,_,_,rfl,rfl,SqT.of (s03 _ _ q1),zai (j:=2) rfl,two,λt4 ht4=>?_⟩;have s4:=Same.up (o:=.tup [.int r.x,.int r.y]) ht4;have e4:upd H3 t4 (.tup [.int r.x,.int r.y]) t4=some (.tup (([r.x,r.y]:List Int).map V.int)):=zaa;generalize upd H3 t4 (.tup [.int r.x,.int r.y])=H4 at s4 e4 ⊢;have s04:=s03.trans s4;have et4:H4 t=some (.tup (([(endC (r.x,r.y) row).1,(endC (r.x,r.y) row).2]:List Int).map V.int)):=s4 _ _ (s3 _ _ et);refine⟨tI [(endC (r.x,r.y) row).1,(endC (r.x,r.y) row).2],tI [r.x,r.y],.tup (SqT.of et4) (RDs.ints _),.tup (SqT.of e4) (RDs.ints _),zaD _,zaD _,_,rfl,?_⟩;rw[zcC]
   by_cases he:endC (r.x,r.y) row=(r.x,r.y)
   rotate_left
   .have hne':¬ [(endC (r.x,r.y) row).1,(endC (r.x,r.y) row).2]=[r.x,r.y]:=λz=>he (zmt (b:=(r.x,r.y)) z)
    refine iteY (by rw[decide_eq_false hne'];rfl) ?_
    refine iteT ?_
    exact k false H4 ⟨λz=>(nomatch z),λz=>absurd z.1 he⟩ s04
   refine iteN (by rw[decide_eq_true (by rw[he])];rfl) ?_
   refine⟨_,rfl,_,rfl,two,λl5 hl5=>?_⟩;have s5:=Same.up (o:=.lst [.int 4,.int (-4)]) hl5;have e5:upd H4 l5 (.lst [.int 4,.int (-4)]) l5=some (.lst [.int 4,.int (-4)]):=zaa
   have hat:atI ([.int 4,.int (-4)]:List V) (if decide (V.str r.so=V.str (BW "hole"))=true then 1 else 0)=some (.int (moreL r.so)):=by
    rcases hso with z |z
    .rw[z];rfl
    .rw[z];rfl
   have s05:=s04.trans s5;refine⟨_,rfl,a,_,_,_,rfl,rfl,SqT.of (s05 _ _ q1),zai (j:=0) rfl,rfl,.inr ⟨_,rfl,l5,_,_,_,rfl,rfl,SqL.of e5,hat,?_⟩⟩;refine⟨rfl,_,rfl,?_⟩
   by_cases hn:((lawN (pw row 0) row:Int)-nOdd row)=moreL r.so
   rotate_left
   .refine iteY (by rw[vint,decide_eq_false hn];rfl) ?_
    exact k false (upd H4 l5 (.lst [.int 4,.int (-4)])) ⟨λz=>(nomatch z),λz=>absurd z.2.1 hn⟩ s05
   refine iteN (by rw[vint,decide_eq_true hn];rfl) ?_
   have s35:=s4.trans s5;have f2':=(s03.trans s35);have g2:(upd H4 l5 (.lst [.int 4,.int (-4)])) c2=some (.lst ws):=s35 _ _ (s3 _ _ f2);have gv:VR ws (lawG (r.x,r.y) (pw row 0) row) cR (upd H4 l5 (.lst [.int 4,.int (-4)])):=v2.mono λx v h=>h.kt (KT.of (s3.trans s35))
   have gd:(upd H4 l5 (.lst [.int 4,.int (-4)])) dd=some (.dT kvs):=s35 _ _ d3;refine⟨_,rfl,c2,rfl,⟨_,SqL.of g2⟩,λq hq9=>?_⟩
   refine zaH (K:=K) (a:=c2) (xs:=ws) (λj σ H9=>∃o,σ=[o,some (.ref dd)]/\Same (upd H4 l5 (.lst [.int 4,.int (-4)])) H9/\H9 q=some (.lst (((((lawG (r.x,r.y) (pw row 0) row).take j).map λg=>decide (g∈lawC (r.x,r.y) row))).map V.bl)))
    ⟨_,rfl,Same.up hq9,zaa⟩ (λj σ H9 _ ⟨_,_,s9,_⟩=>SqL.of (s9 _ _ g2)) ?_ ?_
   .rintro j u σ H9 hj ⟨o,rfl,s9,e9⟩;obtain⟨g,hg,bb,rfl,qb⟩:=gv.at hj;have hjl:j<(lawG (r.x,r.y) (pw row 0) row).length:=(Ac.mp hg).1;refine gN ?_
    refine⟨_,rfl,_,rfl,dd,_,rfl,.inr ⟨kvs,kC g,bb,Rd.of (s9 _ _ gd),rfl,s9 _ _ qb,rfl⟩,?_⟩;rw[hk3];refine⟨_,e9,za5 (by simp only[Am,AX];lia),_,rfl,zar hq9 s9,?_⟩;rw[zaa,zaC hg,Bc,Bc];rfl
   .rintro σ H9 ⟨o,rfl,s9,e9⟩;rw[gv.1,AL]at e9;refine⟨q,_,rfl,SqL.of e9,?_⟩;refine⟨_,rfl,k _ H9 ?_ (s05.trans s9)⟩;rw[List.any_map,Bool.not_eq_true',List.any_eq_false];constructor
    .intro h;refine⟨he,hn,λ⟨g,m1,m2⟩=>h g m1 ?_⟩;exact decide_eq_true m2
    .intro h g m1 m2;exact h.2.2 ⟨g,m1,of_decide_eq_true m2⟩
structure BegOk (r:Rnd):Prop where
 ends:nLf (kOf r.so) (r.row.getD 0 0)<=nLf (wayB (r.row.getD (r.row.length-1) 0)) (r.row.getD 0 0)
 mid:∀t p,0<t->t<r.row.length->p<=nLf (wayB (r.row.getD (t-1) 0)) (r.row.getD t 0)->(wayB (r.row.getD (t-1) 0)+p) % 4=kOf r.so->HT.lexLt [(endC (r.x,r.y) (r.row.take t)).2,(endC (r.x,r.y) (r.row.take t)).1] [r.y,r.x]=false
 last:HT.lexLt [(endC (r.x,r.y) r.row).2,(endC (r.x,r.y) r.row).1] [r.y,r.x]=false
theorem Own.beg{c:Cell}{row:List Nat}{so:Str}{r:Rnd}(h:Own c row so r):BegOk r:=by obtain⟨h1,h2,h3,h4,h5,h6⟩:=h;subst h1;exact⟨by rw[h2];exact h4,λt p h0 ht=>h5 t p h0 (by lia),h6⟩
theorem zjz(s:Str):kOf s<4:=by unfold kOf;split <;> decide
theorem zcN{row:List Nat}{j:Nat}(h:j<row.length):row.getD j 0=row[j]:=by rw[AB,Aa h];rfl
theorem BegOk.left{r:Rnd}(h:BegOk r){j p:Nat}(hj:j < r.row.length)(p1 : 1 <= p)(hp:p <= nLf (dgo (kOf r.so) (r.row.take j)).2 r.row[j])(hk:((dgo (kOf r.so) (r.row.take j)).2 + p) % 4=kOf r.so) :
  HT.lexLt [(endC (r.x,r.y) (r.row.take j)).2,(endC (r.x,r.y) (r.row.take j)).1] [r.y,r.x]=false:=by
 rcases BF j with z |z
 .subst z;have h1:=zgm (dgo (kOf r.so) (r.row.take 0)).2 r.row[0];have h2:(kOf r.so+p) % 4=kOf r.so:=hk;have:=zjz r.so;lia
 .rw[zc2 z (A7 hj)]at hp hk;exact h.mid j p z hj (by rw[zcN hj];exact hp) hk
theorem BegOk.step{r:Rnd}(h:BegOk r){j:Nat}(hj:j<r.row.length)(hk:wayB r.row[j]=kOf r.so):HT.lexLt [(endC (r.x,r.y) (r.row.take (j+1))).2,(endC (r.x,r.y) (r.row.take (j+1))).1] [r.y,r.x]=false:=by
 rcases A8 (j+1) r.row.length with z |z
 .refine h.mid (j+1) 0 (Nat.succ_pos _) z (Be _) ?_
  rw[DF,zcN hj,hk,BU,Br (zjz _)]
 .rw[Ba z];exact h.last
structure PlI (H:Hp) (F:Addr) (r:Rnd) (n:Nat) (H2:Hp):Prop where
 same:Same H H2
 new:H F=none
 ex:∃zs L,H2 F=some (.lst zs)/\VR zs L cR H2/\L.length<=n/\∀d∈L,HT.lexLt [d.1,d.2] [r.y,r.x]=false
theorem PlI.up{H H2 H3:Hp}{F:Addr}{r:Rnd}{n:Nat}(h:PlI H F r n H2)(s:Same H2 H3):PlI H F r n H3:=⟨h.same.trans s,h.new,let ⟨zs,L,e,v,l,a⟩:=h.ex;⟨zs,L,s _ _ e,v.mono λx v q=>q.kt (KT.of s),l,a⟩⟩
theorem PlI.le{H H2:Hp}{F:Addr}{r:Rnd}{n m:Nat}(h:PlI H F r n H2)(q:n<=m):PlI H F r m H2:=⟨h.same,h.new,let ⟨zs,L,e,v,l,a⟩:=h.ex;⟨zs,L,e,v,Bf l q,a⟩⟩
theorem PlI.app{H H3:Hp}{F t:Addr}{r:Rnd}{n:Nat}{zs:List V}{L:List Cell}{d:Cell}(h:PlI H F r n H3)(e:H3 F=some (.lst zs))(v:VR zs L cR H3)(l:L.length <= n)(a:∀d ∈ L, HT.lexLt [d.1, d.2] [r.y, r.x]=false)
  (et:H3 t=some (.tup (cellT d))) (hd:HT.lexLt [d.1,d.2] [r.y,r.x]=false):PlI H F r (n+1) (upd H3 F (.lst (zs++[.ref t]))):=by
 have kt:KT H3 (upd H3 F (.lst (zs++[.ref t]))):=KT.lst e;refine⟨zar h.new h.same,h.new,_,_,zaa,v.snoc (λx v q=>q.kt kt) ⟨t,rfl,kt _ _ et⟩,by rw[Af];exact Nat.succ_le_succ l,λx hx=>?_⟩;rcases Aj.mp hx with q |q
 .exact a x q
 .rw[Ah.mp q];exact hd
noncomputable def zkG(K:W.Frag):Sp:=λvs H Q _=>∃(v:V) (r:Rnd),vs=[v]/\rR r v H/\SoOk r/\r.row≠[]/\(∀s∈r.row,s<8)/\r.row.length<=480/\BegOk r/\∀H',Same H H'->Q (.bl true) H'
theorem zfq (T:Txt P w K mg) (g__law_beside:Fn P w K mg base 2 "_law_beside" ["_law_x","_law_y","_law_step"] zdB) (d:Df K mg "_law_begins" zbz ["_law_one"]):FnOk P w K mg base CX0 3 d.f d.fd ["_law_one"] (zkG K):=by
 refine d.F.ok zap (λvs H Q E h=>?_) (λcdv A outer s H vs Q E hr h=>?_)
 .obtain⟨v,r,rfl,_⟩:=h;rfl
 .obtain⟨v,r,rfl,hv,hso,hne,h8,hlen,hB,k⟩:=h;have hu0:=hr.units0;have nb0:(["_law_place","_law_one"]:List Str).Nodup:=by decide +kernel
  refine⟨_,(zac (sE 1 zap.nd (pe_ix zaE (zaX (pa_C zab (pa_C zab zad))) (zbJ zc7 (by rfl) T.nint (by rfl) (zag (zaT op_eq (pe_ix zat (pv 0) zab (λ_ _=>rfl)) zdo (zan _)) zad)) (λ_ _=>rfl)))
   (zac (sE 2 zap.nd (pv 1))
   (zac (sE 3 zap.nd (pe_ix zat (pv 0) zab (λ_ _=>rfl)))
   (zac (sE 4 zap.nd (pe_ix zat (pv 0) zab (λ_ _=>rfl)))
   (zac (sE 5 zap.nd (zaX zad))
   (zac (zbI Bd rfl (zdX (pe_ix zat (pv 0) zab (λ_ _=>rfl))) (nG 6 zap.nd)
   (zac (zfg Bd (zao op_ne (pv 1) (pe_op zaN (pe_op zbU (pe_op zaF (pv 6) zab) zab) zab) (zan _))
   (zac (sE 1 zap.nd (pe_op zaN (pe_op zaF (pv 1) zab) zab))
   (zaf (ps_if (zao op_eq (pv 1) (pv 2) (zan _))
   (zaf (za8 (pe_bm AT AY AZ zaP (pv 5) (pa_T (zav (pa_N (pv 4) (pa_N (pv 3) zad))) zad))))
   zas))))
   (zac (zbw (pC g__law_beside hr (pa_N (pv 3) (pa_N (pv 4) (pa_N (pv 6) zad)))) (zbl (by rfl) (zah (nG 3 zap.nd) (zah (nG 4 zap.nd) zaG))))
   (zac (sE 1 zap.nd (pe_op zbU (pv 6) zab))
   (zaf (ps_if (zao op_eq (pv 1) (pv 2) (zan _))
   (zaf (za8 (pe_bm AT AY AZ zaP (pv 5) (pa_T (zav (pa_N (pv 4) (pa_N (pv 3) zad))) zad))))
   zas))))))
   (zac (sE 7 zap.nd (pe_op zaN (pe_op zbU (pe_op zaF (pe_ix zat (pe_ix zat (pv 0) zab (λ_ _=>rfl)) zab (λ_ _=>rfl)) zab) zab) zab))
   (zac (ps_if (zao op_lt (pe_op zaN (pe_op zbi (pv 7) (pe_op zbU (pe_ix zat (pe_ix zat (pv 0) zab (λ_ _=>rfl)) (pe_un zeK zab) (λ_ _=>rfl)) zab)) zab) (pe_op zaN (pe_op zbi (pv 7) (pv 2)) zab) (zan _))
   (zaf (zaj pe_bl))
   zas)
   (zaf (zaj (zjb (zaw (zgF rfl) (by rfl) T.nany (by rfl) (zag (za3 (osc:=zae zbz) (N:=zce) (N':=["_law_place","_law_one"]) (sel:=[none,some 0]) bO (zaS (pv 5)) (λ_ _ _ _ _=>(nG 0 nb0)) (λ_ _ _ _ _=>zbq) (λ_ _ _ _ _=>(zaT (zls (K:=K) hu0) (pv 0) (zav (zag (pe_ix (zhb (K:=K)) (pv 1) zab (λ_ _=>rfl)) (zag (pe_ix (zhb (K:=K)) (pv 1) zab (λ_ _=>rfl)) zad))) (zan _)))) zad))))))))))))),?_⟩
  obtain⟨a,b,rfl,q1,q2⟩:=id hv;have hσ:L2.start zce [.ref a]=[some (.ref a),none,none,none,none,none,none,none]:=rfl;rw[hσ];have hl0:=B3.mpr hne;have hrl:(rowV r.row).length=r.row.length:=Am ..;refine⟨two,λl1 hl1=>?_⟩;have s1:=Same.up (o:=.lst [.int 0,.int 2]) hl1;have e1:upd H l1 (.lst [.int 0,.int 2]) l1=some (.lst [.int 0,.int 2]):=zaa;generalize upd H l1 (.lst [.int 0,.int 2])=H1 at s1 e1 ⊢
  have hat:atI ([.int 0,.int 2]:List V) (if decide (V.str r.so=V.str (BW "hole"))=true then 1 else 0)=some (.int ((kOf r.so:Nat):Int)):=by
   rcases hso with z |z
   .rw[z];rfl
   .rw[z];rfl
  have hk4:=zjz r.so;refine⟨_,rfl,a,_,_,_,rfl,rfl,SqT.of (s1 _ _ q1),zai (j:=0) rfl,rfl,.inr ⟨_,rfl,l1,_,_,_,rfl,rfl,SqL.of e1,hat,?_⟩⟩;simp only[zau,Ax,Ay];refine⟨_,rfl,?_⟩;simp only[zau,Ax,Ay];refine⟨_,rfl,a,_,_,_,rfl,rfl,SqT.of (s1 _ _ q1),zai (j:=1) rfl,?_⟩;simp only[zau,Ax,Ay];refine⟨_,rfl,a,_,_,_,rfl,rfl,SqT.of (s1 _ _ q1),zai (j:=2) rfl,?_⟩;simp only[zau,Ax,Ay];refine⟨(by show 0<=sizeLine;decide),λF hF=>?_⟩;simp only[zau,Ax,Ay];have I2:PlI H F r 0 (upd H1 F (.lst [])):=⟨s1.trans (Same.up hF),s1.free hF,[],[],zaa,VR.nil,Ai _,λ_ h=>by cases h⟩;generalize upd H1 F (.lst [])=H2 at I2 ⊢;refine⟨_,rfl,a,_,_,_,rfl,rfl,SqT.of (I2.same _ _ q1),zai (j:=3) rfl,b,rfl,⟨_,SqT.of (I2.same _ _ q2)⟩,?_⟩
  refine zdh (K:=K) (a:=b) (xs:=rowV r.row) (λj σ H5=>∃(cx cy:Int) (o6:Option V),σ=[some (.ref a),some (.int ((dgo (kOf r.so) (r.row.take j)).2:Nat)),some (.int ((kOf r.so:Nat):Int)),some (.int cx),some (.int cy),some (.ref F),o6,none]/\(cx,cy)=endC (r.x,r.y) (r.row.take j)/\PlI H F r (4*j) H5)
   ⟨r.x,r.y,_,rfl,rfl,I2⟩ (λj σ H5 _ ⟨_,_,_,_,_,I5⟩=>SqT.of (I5.same _ _ q2)) ?_ ?_
  .rintro j v σ H5 hj ⟨cx,cy,o6,rfl,hcc,I5⟩;have hjl:j<r.row.length:=by have:=(Ac.mp hj).1;rw[hrl]at this;exact this
   have hrj:r.row[j]?=some r.row[j]:=Aa hjl;unfold rowV at hj;rw[AI,hrj]at hj
   cases hj
   have hs8:=h8 _ (A3 hjl);have bl:=λp=>hB.left (j:=j) (p:=p) hjl
   have bs:=hB.step hjl;generalize hst:r.row[j]=st at hrj hs8 bl bs;simp only[zau,Ax,Ay];have hg4:zak st<4:=Bj _ (by decide);have hgI:((st:Int)+1) / 2 % 4=((zak st:Nat):Int):=by unfold zak;lia
   have hW4:=zdk (r.row.take j) (kOf r.so) hk4;have snW:(dgo (kOf r.so) (r.row.take j++[st])).2=wayB st:=by rw[zc1]
   have snE:=zeb (r.row.take j) (r.x,r.y) st;rw[zaC hrj]at bs ⊢;rw[<- hcc]at snE bl;rw[snE]at bs;generalize r.row.take j=tk at *;generalize hW:(dgo (kOf r.so) tk).2=W at hW4 bl ⊢;refine⟨λm σ H6=>∃p:Nat,σ=[some (.ref a),some (.int (((W+p) % 4:Nat):Int)),some (.int ((kOf r.so:Nat):Int)),some (.int cx),some (.int cy),some (.ref F),some (.int (st:Int)),none]/\m+p=nLf W st/\PlI H F r (4*j+p) H6,⟨_,0,?_,BU _,I5⟩,?_⟩
   .rw[BU,Br hW4]
   rintro m σ H10 ⟨p,rfl,hm,I10⟩;have hp4:(W+p) % 4<4:=Bj _ (by decide);have hp3:p<=3:=by have:=zgm W st;lia
   have hfin:=zcM (s:=st) hW4;refine⟨_,rfl,_,rfl,_,_,rfl,rfl,_,_,rfl,rfl,⟨by decide,by decide⟩,_,_,rfl,rfl,(by show (0:Int)<4;decide),rfl,_,rfl,?_⟩
   by_cases hz:(W+p) % 4=zak st
   .refine iteN ?_ ?_
    .show (!decide (V.int (((W+p) % 4:Nat):Int)=V.int (((st:Int)+1) / 2 % 4)))=false;rw[hgI,hz,decide_eq_true rfl];rfl
    refine⟨_,rfl,_,rfl,_,rfl,cx,cy,_,rfl,λt12 H12 ht12 s12 e12=>?_⟩;refine⟨t12,_,rfl,SqT.of e12,rfl,_,_,rfl,_,_,rfl,rfl,?_⟩;simp only[zau,Ax,Ay];rw[show ((st:Int) % 8).toNat=st by lia];refine⟨_,rfl,_,_,rfl,rfl,⟨by decide,by decide⟩,?_⟩;simp only[zau,Ax,Ay];have hwB:(st:Int) / 2=((wayB st:Nat):Int):=by unfold wayB zak;lia
    rw[hwB];have I12:=I10.up s12;refine⟨_,rfl,_,rfl,rfl,_,rfl,?_⟩;rw[vint]
    by_cases hw:wayB st=kOf r.so
    .refine iteY (decide_eq_true (by rw[hw])) ?_
     obtain⟨zs,L,f12,v12,l12,a12⟩:=I12.ex;refine⟨_,rfl,.inl ⟨rfl,_,SqL.of f12⟩,_,rfl,_,rfl,two,λt13 ht13=>?_⟩;have s13:=Same.up (o:=.tup [.int (go (cx,cy) st).2,.int (go (cx,cy) st).1]) ht13;have e13:upd H12 t13 (.tup [.int (go (cx,cy) st).2,.int (go (cx,cy) st).1]) t13=some (.tup (cellT ((go (cx,cy) st).2,(go (cx,cy) st).1))):=zaa;generalize upd H12 t13 (.tup [.int (go (cx,cy) st).2,.int (go (cx,cy) st).1])=H13 at s13 e13 ⊢;refine⟨F,zs,_,rfl,rfl,s13 _ _ f12,za5 (by rw[v12.1];lia),?_⟩;refine⟨(go (cx,cy) st).1,(go (cx,cy) st).2,some (.int (st:Int)),?_,snE.symm,((I12.up s13).app (s13 _ _ f12) (v12.mono λx v q=>q.kt (KT.of s13)) l12 a12 e13 (bs hw)).le (by lia)⟩;rw[snW]
    .refine iteN (decide_eq_false (λz=>hw (by lia))) ?_
     refine⟨(go (cx,cy) st).1,(go (cx,cy) st).2,some (.int (st:Int)),?_,snE.symm,I12.le (by lia)⟩;rw[snW]
   .refine iteY ?_ ?_
    .show (!decide (V.int (((W+p) % 4:Nat):Int)=V.int (((st:Int)+1) / 2 % 4)))=true;rw[hgI,decide_eq_false (λq=>hz (by injection q with q;lia))];rfl
    have hm0:0<m:=by
     rcases BF m with z |z
     .exact absurd (by rw[show p=nLf W st by lia];exact hfin) hz
     .exact z
    refine⟨λσ H7=>∃p:Nat,σ=[some (.ref a),some (.int (((W+p) % 4:Nat):Int)),some (.int ((kOf r.so:Nat):Int)),some (.int cx),some (.int cy),some (.ref F),some (.int (st:Int)),none]/\(m-1)+p=nLf W st/\PlI H F r (4*j+p) H7,λσ' H' h=>⟨m-1,by lia,h⟩,?_⟩;refine⟨_,rfl,_,_,rfl,rfl,_,_,rfl,rfl,(by show (0:Int)<4;decide),?_⟩;simp only[zau,Ax,Ay];have hw1:((((W+p) % 4:Nat):Int)+1) % 4=(((W+(p+1)) % 4:Nat):Int):=by lia
    rw[hw1];refine⟨_,rfl,_,rfl,rfl,_,rfl,?_⟩;rw[vint]
    by_cases hw:(W+(p+1)) % 4=kOf r.so
    .refine iteY (decide_eq_true (by rw[hw])) ?_
     obtain⟨zs,L,f12,v12,l12,a12⟩:=I10.ex;refine⟨_,rfl,.inl ⟨rfl,_,SqL.of f12⟩,_,rfl,_,rfl,two,λt13 ht13=>?_⟩;have s13:=Same.up (o:=.tup [.int cy,.int cx]) ht13;have e13:upd H10 t13 (.tup [.int cy,.int cx]) t13=some (.tup (cellT (cy,cx))):=zaa;generalize upd H10 t13 (.tup [.int cy,.int cx])=H13 at s13 e13 ⊢;refine⟨F,zs,_,rfl,rfl,s13 _ _ f12,za5 (by rw[v12.1];lia),?_⟩;exact⟨p+1,rfl,by lia,(I10.up s13).app (s13 _ _ f12) (v12.mono λx v q=>q.kt (KT.of s13)) l12 a12 e13 (bl (p+1) (Nat.succ_le_succ (Be _)) (by lia) hw)⟩
    .refine iteN (decide_eq_false (λz=>hw (by lia))) ?_
     exact⟨p+1,rfl,by lia,I10.le (by lia)⟩
  .rintro σ H5 ⟨cx,cy,o6,rfl,hcc,I5⟩;rw[hrl]at I5;have s5:=I5.same
   have h0:(rowV r.row)[0]?=some (.int (r.row.getD 0 0:Nat)):=by unfold rowV;rw[AI,zcN hl0,Aa hl0];rfl
   have h0':r.row.getD 0 0<8:=by rw[zcN hl0];exact h8 _ (A3 _)
   have hz:(rowV r.row)[(rowV r.row).length-1]?=some (.int (r.row.getD (r.row.length-1) 0:Nat)):=by rw[hrl];unfold rowV;rw[AI,zcN (show r.row.length-1<r.row.length by lia),Aa (show r.row.length-1<r.row.length by lia)];rfl
   have hz':r.row.getD (r.row.length-1) 0<8:=by rw[zcN (show r.row.length-1<r.row.length by lia)];exact h8 _ (A3 _)
   have hE:=hB.ends;generalize hg0:r.row.getD 0 0=s0 at h0 h0' hE;generalize hgz:r.row.getD (r.row.length-1) 0=sz at hz hz' hE;refine⟨_,rfl,a,_,_,_,rfl,rfl,SqT.of (s5 _ _ q1),zai (j:=3) rfl,b,_,_,_,rfl,rfl,SqT.of (s5 _ _ q2),zai (j:=0) h0,_,_,rfl,rfl,_,_,rfl,rfl,⟨by decide,by decide⟩,_,_,rfl,rfl,(by show (0:Int)<4;decide),?_⟩;simp only[zau,Ax,Ay];refine⟨_,rfl,_,rfl,a,_,_,_,rfl,rfl,SqT.of (s5 _ _ q1),zai (j:=3) rfl,_,rfl,b,_,_,_,rfl,rfl,SqT.of (s5 _ _ q2),(zfO (by lia)).trans hz,_,_,rfl,rfl,⟨by decide,by decide⟩,_,_,rfl,rfl,_,_,rfl,rfl,(by show (0:Int)<4;decide),_,rfl,_,rfl,_,_,rfl,rfl,_,_,rfl,rfl,(by show (0:Int)<4;decide),_,_,rfl,rfl,_,rfl,?_⟩
   have hlt:¬ (((s0:Int)+1) / 2 % 4-(sz:Int) / 2) % 4<(((s0:Int)+1) / 2 % 4-((kOf r.so:Nat):Int)) % 4:=by
    have hwB:wayB sz=sz / 2:=by unfold wayB zak;lia
    have hwF:((s0:Int)+1) / 2 % 4=((zak s0:Nat):Int):=by unfold zak;lia
    have hw4:=zbY s0;rw[hwB]at hE;unfold nLf at hE;rw[hwF];lia
   refine iteN (decide_eq_false hlt) ?_
   obtain⟨zs,L,f5,v5,l5,a5⟩:=I5.ex;refine⟨_,rfl,F,rfl,⟨_,SqL.of f5⟩,λq hq9=>?_⟩
   refine zaH (K:=K) (a:=F) (xs:=zs) (λj σ H9=>∃o,σ=[o,some (.ref a)]/\Same H5 H9/\H9 q=some (.lst ((Ae j false).map V.bl)))
    ⟨_,rfl,Same.up hq9,zaa⟩ (λj σ H9 _ ⟨_,_,s9,_⟩=>SqL.of (s9 _ _ f5)) ?_ ?_
   .rintro j u σ H9 hj ⟨o,rfl,s9,e9⟩;obtain⟨g,hg,bb,rfl,qb⟩:=v5.at hj;have hjl:j<L.length:=(Ac.mp hg).1;refine gN ?_
    have r1:=(s5.trans s9) _ _ q1;refine⟨_,rfl,_,rfl,a,_,_,_,rfl,rfl,SqT.of r1,zai (j:=2) rfl,_,rfl,a,_,_,_,rfl,rfl,SqT.of r1,zai (j:=1) rfl,two,λt3 ht3=>?_⟩;have s3:=Same.up (o:=.tup [.int r.y,.int r.x]) ht3;have e3:upd H9 t3 (.tup [.int r.y,.int r.x]) t3=some (.tup (([r.y,r.x]:List Int).map V.int)):=zaa;generalize upd H9 t3 (.tup [.int r.y,.int r.x])=H10 at s3 e3 ⊢;have e10:=s3 _ _ e9;refine⟨bb,t3,[g.1,g.2],[r.y,r.x],rfl,rfl,SqT.of (s3 _ _ (s9 _ _ qb)),SqT.of e3,?_⟩;rw[a5 g (As hg)];refine⟨_,e10,za5 (by simp only[Am,AK];lia),_,rfl,zar hq9 (s9.trans s3),?_⟩;rw[zaa,List.replicate_succ',Bc];rfl
   .rintro σ H9 ⟨o,rfl,s9,e9⟩;refine⟨q,_,rfl,SqL.of e9,_,rfl,?_⟩;have:(Ae zs.length false).any id=false:=by simp
    rw[this];exact k H9 (s5.trans s9)
theorem zkx{K:W.Frag}{H:Hp}{Q:VK}{a b:Addr}{xs ys:List V}(hx:SqT K H a xs)(hy:SqT K H b ys)(hne:xs ≠ [])(hl:xs.length + ys.length <= sizeLine)(h:∀c H', Same H H' -> SqT K H' c (xs ++ ys) -> Q (.ref c) H') :
  rCatT K (.ref a) (.ref b) H Q :=
 ⟨a,b,xs,ys,rfl,rfl,hx,hy,hne,hl,λz=>h a H (Same.refl _) (by rw[z,AH];exact hx),λ_ p hp=>h p _ (Same.up hp) (SqT.of zaa)⟩
noncomputable def zf4:Sp:=λvs H Q _=>∃(v:V) (r:Rnd),vs=[v]/\rR r v H/\SoOk r/\r.row.length<=500/\∀H',Same H H'->Q (.bl true) H'
theorem zd3 (T:Txt P w K mg) (d:Df K mg "_law_is_round" zbh ["_law_found"]):FnOk P w K mg base CX0 1 d.f d.fd ["_law_found"] zf4:=by
 refine d.F.ok zdt (λvs H Q E h=>?_) (λcdv A outer s H vs Q E hr h=>?_)
 .obtain⟨v,r,rfl,_⟩:=h;rfl
 .obtain⟨v,r,rfl,⟨a,b,rfl,q1,q2⟩,hso,hlen,k⟩:=h;have hu1:=hu_of hr;have nb0:(["_law_one"]:List Str).Nodup:=by decide +kernel
  refine⟨_,(zac (ps_if (pw_or (zcV (zco (zaw zfN (by rfl) T.nisinstance (by rfl) (pa_N (pv 0) (pa_N (zfk (v:=.ty "tuple") (by rfl) T.ntuple (by rfl) rfl) zad))))) (pw_or (zao op_ne (zaw zaK (by rfl) T.nlen (by rfl) (pa_N (pv 0) zad)) zab (zan _)) (zf9 (zao zgd (pe_ix zat (pv 0) zab (λ_ _=>rfl)) (zav (pa_C zdo (pa_C zdo zad))) rfl)))).pt
   (zaf (zaj pe_bl))
   zas)
   (zac (ps_if (zcV (zco (zaw zfN (by rfl) T.nisinstance (by rfl) (zag (pe_ix zat (pv 0) zab (λ_ _=>rfl)) (pa_N (zfk (v:=.ty "tuple") (by rfl) T.ntuple (by rfl) rfl) zad)))))
   (zaf (zaj pe_bl))
   zas)
   (zaf (zaj (zaw (zei rfl) (by rfl) T.nall (by rfl) (zag (za3 (osc:=zae zbh) (N:=zcr) (N':=["_law_one"]) (sel:=[none]) bO (zdX (pe_op zjf (zcv zgU (pv 0) (zcJ zab) (zcJ zab)) (pe_ix zat (pv 0) zab (λ_ _=>rfl)))) (λ_ _ _ _ _=>(nG 0 nb0)) (λ_ _ _ _ _=>zbq) (λ_ _ _ _ _=>(zdZ (zaw (zgE (K:=K)) (by rfl) T.nisinstance (by rfl) (pa_N (pv 0) (pa_N (zfk (v:=.ty "int") (by rfl) T.nint (by rfl) rfl) zad))) (zeS (zjb (zaw (zgE (K:=K)) (by rfl) T.nisinstance (by rfl) (pa_N (pv 0) (pa_N (zfk (v:=.ty "bool") (by rfl) T.nbool (by rfl) rfl) zad)))))))) zad)))))),?_⟩
  refine⟨_,rfl,.ref a,"tuple",_,true,rfl,.tup q1,zfF _ _,_,rfl,?_⟩;refine iteF ?_
  refine⟨_,rfl,a,_,rfl,.inr (SqT.of q1),?_⟩;refine⟨rfl,_,rfl,iteN rfl ?_⟩;refine⟨_,rfl,a,_,_,_,rfl,rfl,SqT.of q1,zai (j:=0) rfl,two,λp hp=>⟨p,_,rfl,.inr (SqT.of zaa),rfl,rfl,_,rfl,iteN ?_ ?_⟩⟩
  .rcases hso with e |e <;> rw[e] <;> decide +kernel
  have s1:=Same.up (o:=.tup [.str "rim",.str "hole"]) hp;generalize upd H p (.tup [.str "rim",.str "hole"])=H1 at s1;have r1:=s1 _ _ q1;have r2:=s1 _ _ q2;refine⟨_,rfl,a,_,_,_,rfl,rfl,SqT.of r1,zai (j:=3) rfl,.ref b,"tuple",_,true,rfl,.tup r2,zfF _ _,_,rfl,iteF ?_⟩;have hs1:HT.sIx 4 0 (some 1)=1:=by decide
  refine⟨_,rfl,_,rfl,_,rfl,a,_,rfl,SqT.of r1,λhw=>absurd (hw.1.symm.trans hs1) (by decide),λ_ p2 hp2=>?_⟩;have ec:cutV [V.str r.so,V.int r.x,V.int r.y,V.ref b] (some 1) (some 3)=[V.int r.x,V.int r.y]:=rfl;have s2:=Same.up (o:=.tup (cutV [V.str r.so,V.int r.x,V.int r.y,V.ref b] (some 1) (some 3))) hp2;have t2:upd H1 p2 (.tup (cutV [V.str r.so,V.int r.x,V.int r.y,V.ref b] (some 1) (some 3))) p2=some (.tup [V.int r.x,V.int r.y]):=by rw[zaa,ec]
  generalize upd H1 p2 (.tup (cutV [V.str r.so,V.int r.x,V.int r.y,V.ref b] (some 1) (some 3)))=H2 at s2 t2;have hrv:(rowV r.row).length=r.row.length:=by unfold rowV;exact Am _
  refine⟨_,rfl,a,_,_,_,rfl,rfl,SqT.of (s2 _ _ r1),zai (j:=3) rfl,zkx (SqT.of t2) (SqT.of (s2 _ _ r2)) (by simp) (A7 (zay (by rw[hrv];show 2+r.row.length<=1000;lia))) λc H3 s3 hc=>⟨c,rfl,⟨_,hc⟩,λq hq=>?_⟩⟩;have hall:([V.int r.x,V.int r.y]++rowV r.row)=([r.x,r.y]++rowI r.row).map V.int:=by rw[zhz];rfl
  have hll:([r.x,r.y]++rowI r.row).length<=502:=by unfold rowI;simp;lia
  rw[hall]at hc;generalize [r.x,r.y]++rowI r.row=ns at hc hll
  refine zdh (K:=K) (a:=c) (xs:=ns.map V.int) (λj σ H9=>∃o,σ=[o]/\Same H3 H9/\H9 q=some (.lst ((Ae j true).map V.bl)))
   ⟨_,rfl,Same.up hq,zaa⟩ (λj σ H9 _ ⟨_,_,s9,_⟩=>s9.seqT hc) ?_ ?_
  .rintro j v σ H9 hj ⟨o,rfl,s9,e9⟩;have hjl:j<(ns.map V.int).length:=(Ac.mp hj).1;rw[Am]at hjl;rw[AI]at hj;obtain⟨n,hn,rfl⟩:=BX.mp hj;refine gN ?_
   refine⟨_,rfl,.int n,"int",_,true,rfl,.int n,zfF _ _,_,rfl,iteT ?_⟩;refine⟨_,rfl,.int n,"bool",_,false,rfl,.int n,zgw _,_,rfl,?_⟩;refine⟨_,e9,zay (by simp;lia),_,rfl,zar hq s9,?_⟩;rw[zaa,List.replicate_succ',Bc];rfl
  .rintro σ H9 ⟨o,rfl,s9,e9⟩;refine⟨q,Ae (ns.map V.int).length true,rfl,SqL.of e9,?_⟩;rw[show (Ae (ns.map V.int).length true).all id=true by simp];exact k H9 (s1.trans (s2.trans (s3.trans s9)))
theorem zd7{t:TS}{D:Ends}{σ:St}{H:Hp}(h:t D σ H):tNext { D with nx:=t D } σ H:=h
theorem zhd{e:TE}{r:List V->Hp->VK->Prop}{g:TG}{b:TS}{D:Ends}{σ:St}{H:Hp}(h:e σ H λx H1=>r [x] H1 λy H2=>g y σ H2 (b D)):tSeq (tAsg (tCB r (tCons e tNil)) g) b D σ H:=h
noncomputable def shf(row:List Nat):List Nat:=row.map λs=>(s+1) % 8
theorem zgV(row:List Nat):(shf row).length=row.length:=Am ..
theorem zhw(row:List Nat):∀s∈shf row,s<8:=λs h=>by obtain⟨t,_,rfl⟩:=Bp.mp h;exact Bj _ (by decide)
theorem zhv{row:List Nat}(h:row≠[]):shf row≠[]:=by
 cases row with
 |nil=>exact absurd rfl h
 |cons s r=>intro z;cases z
theorem ziX(l:List Nat)(s:Nat):rowV (l++[s])=rowV l++[.int (s:Int)]:=by unfold rowV;rw[Bc];rfl
theorem zj1(l:List Nat)(s:Nat):shf (l++[s])=shf l++[(s+1) % 8]:=by unfold shf;rw[Bc];rfl
theorem zcE{te:TE}{σ : St}{H:Hp}{Q:VK}{b:Addr}{row:List Nat}(hte:∀R:VK, R (.ref b) H -> te σ H R)(q2:H b=some (.tup (rowV row)))(hlen:row.length <= 480)
  (k:∀q H',H q=none->Same H H'->H' q=some (.lst (rowV (shf row)))->Q (.ref q) H') :
  zf2 (iTup K te) [none] (gName 0) (λx H Q=>Q true H) (tOp (rI (λx j=>0<j) λi j=>V.int (i % j)) (tOp (rI0 λi j=>V.int (i+j)) (tVar 0) (tC (.int 1))) (tC (.int 8))) σ H Q:=by
 have hrl:(rowV row).length=row.length:=Am ..;refine hte _ ⟨b,rfl,⟨_,SqT.of q2⟩,λq hq=>?_⟩
 refine zdh (K:=K) (a:=b) (xs:=rowV row) (λj σ H9=>∃o,σ=[o]/\Same H H9/\H9 q=some (.lst (rowV (shf (row.take j)))))
  ⟨_,rfl,Same.up hq,zaa⟩ (λj σ H9 _ ⟨_,_,s9,_⟩=>SqT.of (s9 _ _ q2)) ?_ ?_
 .rintro j u σ H9 hj ⟨o,rfl,s9,e9⟩;have hjl:j<row.length:=by have:=(Ac.mp hj).1;rw[hrl]at this;exact this
  have hrj:row[j]?=some row[j]:=Aa hjl;unfold rowV at hj;rw[AI,hrj]at hj
  cases hj
  refine gN ?_
  refine⟨_,rfl,_,_,rfl,rfl,_,_,rfl,rfl,(by show (0:Int)<8;decide),?_⟩;refine⟨_,e9,za5 (by unfold rowV;rw[Am,zgV,AX];lia),_,rfl,zar hq s9,?_⟩;rw[zaa,zaC hrj,zj1,ziX,show (((row[j]+1) % 8:Nat):Int)=((row[j]:Int)+1) % 8 by lia]
 .rintro σ H9 ⟨o,rfl,s9,e9⟩;rw[hrl,AL]at e9;exact k q H9 hq s9 e9
theorem zh9{σ : St}{H:Hp}{Q:VK}{b:Addr}{row:List Nat}{ib:Nat}(hb : σ[ib]? = some (some (.ref b)))(q2:H b=some (.tup (rowV row)))(hlen:row.length <= 480)
  (k:∀q H',H q=none->Same H H'->H' q=some (.lst (rowV (shf row)))->Q (.ref q) H') :
  zf2 (iTup K (tVar ib)) [none] (gName 0) (λx H Q=>Q true H) (tOp (rI (λx j=>0<j) λi j=>V.int (i % j)) (tOp (rI0 λi j=>V.int (i+j)) (tVar 0) (tC (.int 1))) (tC (.int 8))) σ H Q:=zcE (λR h=>⟨_,hb,h⟩) q2 hlen k
noncomputable def ze6(K:W.Frag):Sp:=λvs H Q _=>∃(v:V) (r:Rnd),vs=[v]/\rR r v H/\SoOk r/\r.row.length<=480/\(∀H',(r.row=[]∨¬ zcs (r.x,r.y) (shf r.row) r.so)->Same H H'->Q .non H') /\
 ∀u H' o,r.row≠[]->zcs (r.x,r.y) (shf r.row) r.so->Same H H'->rR o u H'->IsRnd (WE (r.x,r.y) (shf r.row)) o->Q u H'
theorem zjh (T:Txt P w K mg) (g_way_for:Fn P w K mg base 1 "way_for" ["step"] ze5) (g_walk_along:Fn P w K mg base 4 "walk_along" ["begin", "row"] (zdJ K)) (g_gainsaid_at:Fn P w K mg base 4 "gainsaid_at" ["walk"] (ziL K))
  (g_is_closed:Fn P w K mg base 4 "is_closed" ["walk","sort"] (zdL K)) (g_round_of:Fn P w K mg base 5 "round_of" ["walk"] (zdK K)) (d:Df K mg "eighth" zdC ["one"]):FnOk P w K mg base CX0 6 d.f d.fd ["one"] (ze6 K):=by
 refine d.F.ok zbE (λvs H Q E h=>?_) (λcdv A outer s H vs Q E hr h=>?_)
 .obtain⟨v,r,rfl,_⟩:=h;rfl
 .obtain⟨v,r,rfl,hv,hso,hlen,kn,kr⟩:=h;have nb0:(["step"]:List Str).Nodup:=by decide +kernel
  refine⟨_,(zac (zbw (pv 0) (zbl (by rfl) (zah (nG 1 zbE.nd) (zah (nG 2 zbE.nd) (zah (nG 3 zbE.nd) (zah (nG 4 zbE.nd) zaG))))))
   (zac (ps_if (zcV (zhC (pv 4) (λ_=>rfl)))
   (zaf (zaj zbm))
   zas)
   (zac (sE 5 zbE.nd (zbJ zcd (by rfl) T.ntuple (by rfl) (zag (za3 (osc:=zae zdC) (N:=zh1) (N':=["step"]) (sel:=[none]) bO (zdX (pv 4)) (λ_ _ _ _ _=>(nG 0 nb0)) (λ_ _ _ _ _=>zbq) (λ_ _ _ _ _=>(pe_op zaN (pe_op zaF (pv 0) zab) zab))) zad)))
   (zac (sE 6 zbE.nd (pC g_walk_along hr (pa_T (zav (pa_N (pv 2) (pa_N (pv 3) (zag (pC g_way_for hr (zag (pe_ix zat (pv 5) zab (λ_ _=>rfl)) zad)) zad)))) (pa_N (pv 5) zad))))
   (zac (ps_if (pw_or (zao zdf (pC g_gainsaid_at hr (pa_N (pv 6) zad)) zbm (zan _)) (zf9 (zcV (zco (pC g_is_closed hr (pa_N (pv 6) (pa_N (pv 1) zad))))))).pt
   (zaf (zaj zbm))
   zas)
   (zaf (zaj (pC g_round_of hr (pa_N (pv 6) zad))))))))),?_⟩
  obtain⟨a,b,rfl,q1,q2⟩:=id hv;refine⟨_,rfl,a,_,rfl,SqT.of q1,rfl,_,_,rfl,_,_,rfl,_,_,rfl,_,_,rfl,rfl,?_⟩;have hrl:(rowV r.row).length=r.row.length:=Am ..;refine⟨_,rfl,_,.inr (.inl ⟨_,SqT.of q2,rfl⟩),?_⟩
  by_cases he:r.row=[]
  .refine iteY (by rw[he];rfl) ?_
   exact kn H (.inl he) (Same.refl _)
  refine iteN (by cases hr:r.row with |nil=>exact absurd hr he |cons x l=>rfl) ?_
  refine zd7 (zhd (zh9 (K:=K) (σ:=[some (.ref a),some (.str r.so),some (.int r.x),some (.int r.y),some (.ref b),none,none]) (ib:=4) rfl q2 hlen λq H1 hq s1 e1=>?_));refine⟨q,_,rfl,.inl ⟨SqL.of e1,λp2 hp2=>?_⟩⟩;have s2:=Same.up (o:=.tup (rowV (shf r.row))) hp2;have e2:upd H1 p2 (.tup (rowV (shf r.row))) p2=some (.tup (rowV (shf r.row))):=zaa;generalize upd H1 p2 (.tup (rowV (shf r.row)))=H2 at s2 e2 ⊢;have hne:=zhv he;have h8:=zhw r.row;have hl:=zgV r.row;generalize hsh:shf r.row=row at e2 hne h8 hl kn kr;have hl0:=B3.mpr hne
  have h0:(rowV row)[0]?=some (.int (row.getD 0 0:Nat)):=by unfold rowV;rw[AI,zcN hl0,Aa hl0];rfl
  have hd8:∀z,some z∈deeds (hdW row) row->z<8:=λz hz=>h8 z (ziq hz)
  have hWlen:(WE (r.x,r.y) row).length<=2000:=by have:=zjH (hdW row) row;unfold WE;rw[zbA];lia
  have hpos:0<(WE (r.x,r.y) row).length:=by unfold WE;rw[zbA];exact zc4 _ _
  have hok:zel (WE (r.x,r.y) row):=zkA _ (zcB row) hd8;obtain⟨f2,hf⟩:∃f2,(WE (r.x,r.y) row)[0]?=some (⟨(r.x,r.y),hdW row⟩,f2):=zhj _ _ (zc4 _ _);obtain⟨l,hll⟩:∃l,(WE (r.x,r.y) row)[(WE (r.x,r.y) row).length-1]?=some l:=⟨_,Aa (by lia)⟩;have hend:edgeB l.1 l.2=⟨endC (r.x,r.y) row,hdW row⟩:=(zix _ _ _ hll).trans (zmr hne h8)
  have hbk:decide (eI (edgeB l.1 l.2)=eI (⟨(r.x,r.y),hdW row⟩:Edge))=decide (endC (r.x,r.y) row=(r.x,r.y)):=by
   refine decide_eq_decide.mpr ?_
   rw[zgB,hend];exact⟨λz=>by injection z,λz=>by rw[z]⟩
  have hnn:(nL (WE (r.x,r.y) row):Int)-nS (WE (r.x,r.y) row)=(lawN (pw row 0) row:Int)-nOdd row:=by rw[nL_WE hne,nS_WE hne]
  refine⟨_,rfl,_,rfl,_,rfl,p2,_,_,_,rfl,rfl,SqT.of e2,zai (j:=0) h0,_,rfl,three,λp3 hp3=>?_⟩;have s3:=Same.up (o:=.tup (edgeT ⟨(r.x,r.y),hdW row⟩)) hp3;have e3:upd H2 p3 (.tup (edgeT ⟨(r.x,r.y),hdW row⟩)) p3=some (.tup (edgeT ⟨(r.x,r.y),hdW row⟩)):=zaa;have e23:=s3 _ _ e2;refine⟨_,rfl,p3,p2,⟨(r.x,r.y),hdW row⟩,row,rfl,e3,zcB row,SqT.of e23,by lia,hd8,λp4 H4 ws hp4 s4 e4 hw=>?_⟩;have s04:=s1.trans (s2.trans (s3.trans s4));have lr:LR K H4 p4 (WE (r.x,r.y) row) wR:=LR.of e4 hw;refine⟨_,rfl,p4,WE (r.x,r.y) row,rfl,lr,hok,hWlen,λi H5 hi hc hn s5=>?_,λH5 hn s5=>?_⟩
  .refine⟨rfl,_,rfl,iteT ?_⟩;refine iteT ?_
   refine kn H5 (.inr λhG=>?_) (s04.trans s5);refine hG.2.2 (zk4.mp ((Con.iff λq=>zkR hne h8 hG.1 q).mp (hc.mono λq hq=>?_)));obtain⟨x,hx1,hx2⟩:=List.mem_flatMap.mp hq;exact List.mem_flatMap.mpr ⟨x,BB hx1,hx2⟩
  .refine⟨rfl,_,rfl,iteF ?_⟩;have s05:=s04.trans s5;have lr5:=lr.same s5 (λx v h=>h.same s5);refine⟨_,rfl,_,rfl,p4,WE (r.x,r.y) row,_,l,r.so,rfl,hso,lr5,hok,hWlen,hf,hll,λH6 s6=>⟨_,rfl,?_⟩⟩;rw[hbk,hnn];have lr6:=lr5.same s6 (λx v h=>h.same s6)
   by_cases hG:zcs (r.x,r.y) row r.so
   .refine iteN (by rw[decide_eq_true hG.1,decide_eq_true hG.2.1];rfl) ?_
    have h44:(nL (WE (r.x,r.y) row):Int)-nS (WE (r.x,r.y) row)=4∨(nL (WE (r.x,r.y) row):Int)-nS (WE (r.x,r.y) row)=-4:=by
     rw[hnn,hG.2.1];rcases hso with z |z
     .left;rw[z];rfl
     .right;rw[z];rfl
    refine⟨_,rfl,p4,WE (r.x,r.y) row,rfl,lr6,hWlen,zhk (by decide) hne h44,zhk (by decide) hne h44,λu H7 o s7 ho hio=>?_⟩;exact kr u H7 o he hG (s05.trans (s6.trans s7)) ho hio
   .have hb:(decide (endC (r.x, r.y) row=(r.x, r.y)) && decide ((lawN (pw row 0) row:Int)-nOdd row=moreL r.so))=false := by
     rw[Bool.and_eq_false_iff]
     by_cases h1:endC (r.x,r.y) row=(r.x,r.y)
     .right;refine decide_eq_false λh2=>hG ⟨h1,h2,λh3=>hn ((Con.iff λq=>zkR hne h8 h1 q).mpr (zk4.mpr h3))⟩
     .exact .inl (decide_eq_false h1)
    refine iteY (by rw[hb];rfl) ?_
    exact kn H6 (.inr hG) (s05.trans s6)
theorem zjM(xs:List V){j:Nat}(h:j<=xs.length):cutV xs (some (0+(j:Int))) none=xs.drop j:=by rw[Int.zero_add];exact zhW xs h
theorem zlI(xs:List V){j:Nat}(h:j<=xs.length):cutV xs none (some (0+(j:Int)))=xs.take j:=by rw[Int.zero_add];exact zk2 xs h
noncomputable def zhs(K:W.Frag):Sp:=λvs H Q _=>∃(v u:V) (r o:Rnd) (b:Addr) (row:List Nat),vs=[v,u,.ref b]/\rR r v H/\rR o u H/\H b=some (.tup (rowV row))/\(∀s∈o.row,s<8)/\o.row.length<=480/\o.row.length=row.length /\
 (∃t,t<row.length/\endC (o.x,o.y) (o.row.take t)=(r.x,r.y)/\o.row.drop t++o.row.take t=row)/\∀H',Same H H'->Q (.bl true) H'
theorem zfo (T:Txt P w K mg) (g__law_beside:Fn P w K mg base 2 "_law_beside" ["_law_x","_law_y","_law_step"] zdB) (d:Df K mg "_law_shifts" zb9 ["_law_one","_law_other","_law_row"]):FnOk P w K mg base CX0 3 d.f d.fd ["_law_one","_law_other","_law_row"] (zhs K):=by
 refine d.F.ok za0 (λvs H Q E h=>?_) (λcdv A outer s H vs Q E hr h=>?_)
 .obtain⟨v,u,r,o,b,row,rfl,_⟩:=h;rfl
 .obtain⟨v,u,r,o,b,row,rfl,hv,ho,hb,h8,hlen,hrow,⟨t,ht,hend,hrot⟩,k⟩:=h;have hu64:=hr.units
  refine⟨_,(zac (sE 3 za0.nd (pe_ix zat (pv 1) zab (λ_ _=>rfl)))
   (zac (sE 4 za0.nd (pe_ix zat (pv 1) zab (λ_ _=>rfl)))
   (zac (zbI Bd rfl (zb0 (by rfl) T.nrange (zag (zaw zaK (by rfl) T.nlen (by rfl) (pa_N (pv 2) zad)) zad)) (nG 5 za0.nd)
   (zac (ps_if (zl5 (zao (zgf hu64) (zav (pa_N (pv 3) (pa_N (pv 4) zad))) (zav (zag (pe_ix zat (pv 0) zab (λ_ _=>rfl)) (zag (pe_ix zat (pv 0) zab (λ_ _=>rfl)) zad))) (zan _)) (zll (zao (zgf hu64) (pe_op zlt (zcv ziO (pe_ix zat (pv 1) zab (λ_ _=>rfl)) (zcJ (pv 5)) zdW) (zcv ziO (pe_ix zat (pv 1) zab (λ_ _=>rfl)) zdW (zcJ (pv 5)))) (pv 2) (zan _)))).pt
   (zaf (zaj pe_bl))
   zas)
   (zaf (zbw (pC g__law_beside hr (pa_N (pv 3) (pa_N (pv 4) (zag (pe_ix zat (pe_ix zat (pv 1) zab (λ_ _=>rfl)) (pv 5) (λ_ _=>rfl)) zad)))) (zbl (by rfl) (zah (nG 3 za0.nd) (zah (nG 4 za0.nd) zaG)))))))
   (zaf (zaj pe_bl))))),?_⟩
  obtain⟨a,ar,rfl,q1,q2⟩:=id hv;obtain⟨c,cr,rfl,p1,p2⟩:=id ho;have hrl:(rowV row).length=row.length:=Am ..;have hol:(rowV o.row).length=o.row.length:=Am ..;refine⟨_,rfl,c,_,_,_,rfl,rfl,SqT.of p1,zai (j:=1) rfl,?_⟩;refine⟨_,rfl,c,_,_,_,rfl,rfl,SqT.of p1,zai (j:=2) rfl,?_⟩;refine⟨_,rfl,b,_,rfl,.inr (SqT.of hb),(rowV row).length,rfl,by rw[hrl];lia,by rw[hrl];lia,?_⟩
  refine zbN (lo:=0) (n:=((rowV row).length:Int).toNat) (λi σ H2=>∃(cx cy:Int) (o5:Option V),σ=[some (.ref a),some (.ref c),some (.ref b),some (.int cx),some (.int cy),o5]/\(cx,cy)=endC (o.x,o.y) (o.row.take i)/\i<=t/\Same H H2)
   ⟨o.x,o.y,_,rfl,rfl,Be _,Same.refl _⟩ ?_ ?_
  .rintro i σ H2 hi ⟨cx,cy,o5,rfl,hcc,hit,s2⟩;rw[CJ,hrl]at hi;simp only[zau,Ax,Ay];refine⟨_,rfl,_,rfl,two,λt3 ht3=>?_⟩;have s3:=Same.up (o:=.tup [.int cx,.int cy]) ht3;have e3:upd H2 t3 (.tup [.int cx,.int cy]) t3=some (.tup (([cx,cy]:List Int).map V.int)):=zaa;generalize upd H2 t3 (.tup [.int cx,.int cy])=H3 at s3 e3 ⊢;have r3:=(s2.trans s3) _ _ q1;refine⟨_,rfl,a,_,_,_,rfl,rfl,SqT.of r3,zai (j:=1) rfl,_,rfl,a,_,_,_,rfl,rfl,SqT.of r3,zai (j:=2) rfl,two,λt4 ht4=>?_⟩;have s4:=Same.up (o:=.tup [.int r.x,.int r.y]) ht4;have e4:upd H3 t4 (.tup [.int r.x,.int r.y]) t4=some (.tup (([r.x,r.y]:List Int).map V.int)):=zaa;generalize upd H3 t4 (.tup [.int r.x,.int r.y])=H4 at s4 e4 ⊢;have s24:=s2.trans (s3.trans s4);refine⟨tI [cx,cy],tI [r.x,r.y],.tup (SqT.of (s4 _ _ e3)) (RDs.ints _),.tup (SqT.of e4) (RDs.ints _),zaD _,zaD _,_,rfl,?_⟩;rw[zcC];have hoi:i<o.row.length:=by lia
   have h8i:=h8 _ (A3 hoi);refine zf0 (D:=λH5=>Same H H5/\i≠t) ?C (λshare=>?g) ?h
   case g =>
    by_cases hc:[cx,cy]=[r.x,r.y]
    rotate_left
    .refine iteN (decide_eq_false hc) ?_
     refine zd7 ?_
     exact share H4 ⟨s24,λz=>hc (by subst z;rw[<- hcc]at hend;injection hend with z1 z2;rw[z1,z2])⟩
    .refine iteY (decide_eq_true hc) ?_
     have p3:=s24 _ _ p1;have p4:=s24 _ _ p2;refine⟨_,rfl,c,_,_,_,rfl,rfl,SqT.of p3,zai (j:=3) rfl,_,rfl,_,rfl,cr,_,rfl,p4,λx5 H5 s5 e5=>?_⟩;rw[zjM _ (by rw[hol];lia)]at e5;refine⟨_,rfl,c,_,_,_,rfl,rfl,SqT.of (s5 _ _ p3),zai (j:=3) rfl,_,rfl,_,rfl,cr,_,rfl,s5 _ _ p4,λx6 H6 s6 e6=>?_⟩;rw[zlI _ (by rw[hol];lia)]at e6;refine⟨x5,x6,_,_,rfl,rfl,s6 _ _ e5,e6,A7 (za5 (by rw[Bh,AX,hol];lia)),λx7 H7 s7 e7=>?_⟩;have s27:=s24.trans (s5.trans (s6.trans s7))
     have e7':H7 x7=some (.tup ((rowI (o.row.drop i++o.row.take i)).map V.int)):=by rw[e7,<- zhz];unfold rowV;rw[Bc,List.map_drop,List.map_take]
     have eb:H7 b=some (.tup ((rowI row).map V.int)):=by rw[<- zhz];exact s27 _ _ hb
     refine⟨_,rfl,tI (rowI (o.row.drop i++o.row.take i)),tI (rowI row),.tup (SqT.of e7') (RDs.ints _),.tup (SqT.of eb) (RDs.ints _),zaD _,zaD _,_,rfl,?_⟩;rw[zcC]
     by_cases hm:rowI (o.row.drop i++o.row.take i)=rowI row
     .refine iteY (decide_eq_true hm) ?_
      exact k H7 s27
     .refine iteN (decide_eq_false hm) ?_
      exact share H7 ⟨s27,λz=>hm (by subst z;rw[hrot])⟩
   case h =>
    rintro H5 ⟨s5,hne⟩;have h0:(rowV o.row)[i]?=some (.int (o.row[i]:Nat)):=by unfold rowV;rw[AI,Aa hoi];rfl
    refine⟨_,rfl,_,rfl,_,rfl,c,_,_,_,rfl,rfl,SqT.of (s5 _ _ p1),zai (j:=3) rfl,_,rfl,cr,_,_,_,rfl,rfl,SqT.of (s5 _ _ p2),(by rw[Int.zero_add];exact zai h0),cx,cy,_,rfl,λt6 H6 ht6 s6 e6=>?_⟩;refine⟨t6,_,rfl,SqT.of e6,rfl,_,_,rfl,_,_,rfl,rfl,?_⟩;simp only[zau,Ax,Ay];rw[show ((o.row[i]:Int) % 8).toNat=o.row[i] by lia];refine⟨_,_,_,rfl,?_,by lia,s5.trans s6⟩;rw[zaC (Aa hoi),zeb,<- hcc]
  .rintro σ H2 ⟨cx,cy,o5,rfl,hcc,hit,s2⟩;rw[CJ,hrl]at hit;lia
noncomputable def zdA(K:W.Frag):Sp:=λvs H Q _=>∃(v:V) (r:Rnd),vs=[v]/\rR r v H/\SoOk r/\r.row.length<=480/\∀H',Same H H'->Q (.bl true) H'
theorem zgh (T:Txt P w K mg) (g_eighth:Fn P w K mg base 6 "eighth" ["one"] (ze6 K)) (g__law_is_good:Fn P w K mg base 4 "_law_is_good" ["_law_one", "_law_row"] (ziK K)) (g__law_is_round:Fn P w K mg base 1 "_law_is_round" ["_law_found"] zf4)
  (g__law_shifts:Fn P w K mg base 3 "_law_shifts" ["_law_one","_law_other","_law_row"] (zhs K)) (g__law_begins:Fn P w K mg base 3 "_law_begins" ["_law_one"] (zkG K)) (d:Df K mg "_law_right" zbP ["_law_one"]):FnOk P w K mg base CX0 7 d.f d.fd ["_law_one"] (zdA K):=by
 refine d.F.ok zb2 (λvs H Q E h=>?_) (λcdv A outer s H vs Q E hr h=>?_)
 .obtain⟨v,r,rfl,_⟩:=h;rfl
 .obtain⟨v,r,rfl,hv,hso,hlen,k⟩:=h;have hu64:=hr.units;have nb0:(["_law_step"]:List Str).Nodup:=by decide +kernel
  refine⟨_,(zac (sE 1 zb2.nd (pC g_eighth hr (pa_N (pv 0) zad)))
   (zac (ps_if (zao (zgf hu64) (pe_ix zat (pv 0) zab (λ_ _=>rfl)) (zav zad) (zan _))
   (zaf (zaj (zaT zge (pv 1) zbm (zan _))))
   zas)
   (zac (sE 2 zb2.nd (zbJ zcd (by rfl) T.ntuple (by rfl) (zag (za3 (osc:=zae zbP) (N:=zdq) (N':=["_law_step"]) (sel:=[none]) bO (zdX (pe_ix zat (pv 0) zab (λ_ _=>rfl))) (λ_ _ _ _ _=>(nG 0 nb0)) (λ_ _ _ _ _=>zbq) (λ_ _ _ _ _=>(pe_op zaN (pe_op zaF (pv 0) zab) zab))) zad)))
   (zac (ps_if (zcV (zco (pC g__law_is_good hr (pa_N (pv 0) (pa_N (pv 2) zad)))))
   (zaf (zaj (zaT zge (pv 1) zbm (zan _))))
   zas)
   (zac (ps_if (pw_or (zcV (zco (pC g__law_is_round hr (pa_N (pv 1) zad)))) (pw_or (zao op_ne (pe_ix zat (pv 1) zab (λ_ _=>rfl)) (pe_ix zat (pv 0) zab (λ_ _=>rfl)) (zan _)) (zf9 (zao op_ne (zaw zaK (by rfl) T.nlen (by rfl) (zag (pe_ix zat (pv 1) zab (λ_ _=>rfl)) zad)) (zaw zaK (by rfl) T.nlen (by rfl) (pa_N (pv 2) zad)) (zan _))))).pt
   (zaf (zaj pe_bl))
   zas)
   (zaf (zaj (zdZ (pC g__law_shifts hr (pa_N (pv 0) (pa_N (pv 1) (pa_N (pv 2) zad)))) (zeS (pC g__law_begins hr (pa_N (pv 1) zad))))))))))),?_⟩
  obtain⟨a,b,rfl,q1,q2⟩:=id hv;have hrl:(rowV r.row).length=r.row.length:=Am ..;have q2':=q2;rw[zhz]at q2';have h8:=zhw r.row;have hl:=zgV r.row;refine⟨_,rfl,.ref a,r,rfl,hv,hso,hlen,λH1 hno s1=>?_,λu H1 o he hG s1 ho hio=>?_⟩
  .refine⟨_,rfl,a,_,_,_,rfl,rfl,SqT.of (s1 _ _ q1),zai (j:=3) rfl,(by show 0<=sizeLine;decide),λt2 ht2=>?_⟩;have s2:=Same.up (o:=.tup []) ht2;have e2:upd H1 t2 (.tup []) t2=some (.tup []):=zaa;generalize upd H1 t2 (.tup [])=H2 at s2 e2 ⊢;refine⟨tI (rowI r.row),tI [],.tup (SqT.of ((s1.trans s2) _ _ q2')) (RDs.ints _),.tup (SqT.of e2) .nil,zaD _,zaD _,_,rfl,?_⟩;rw[zcC]
   by_cases he:r.row=[]
   .refine iteY (decide_eq_true (by rw[he];rfl)) ?_
    exact⟨_,rfl,rfl,k H2 (s1.trans s2)⟩
   refine iteN (decide_eq_false (λz=>he (List.map_eq_nil_iff.mp z))) ?_
   have s02:=s1.trans s2;refine zd7 (zhd (zcE (K:=K) (σ:=[some (.ref a),some .non,none]) (λR h=>⟨_,rfl,a,_,_,_,rfl,rfl,SqT.of (s02 _ _ q1),zai (j:=3) rfl,h⟩) (s02 _ _ q2) hlen λq H3 hq s3 e3=>?_));refine⟨q,_,rfl,.inl ⟨SqL.of e3,λp4 hp4=>?_⟩⟩;have s4:=Same.up (o:=.tup (rowV (shf r.row))) hp4;have e4:upd H3 p4 (.tup (rowV (shf r.row))) p4=some (.tup (rowV (shf r.row))):=zaa;generalize upd H3 p4 (.tup (rowV (shf r.row)))=H4 at s4 e4 ⊢;have s04:=s02.trans (s3.trans s4);refine⟨_,rfl,_,rfl,.ref a,r,p4,shf r.row,rfl,hv.kt (KT.of s04),hso,SqT.of e4,zhv he,h8,by lia,λbv H5 hb s5=>⟨_,rfl,?_⟩⟩
   have hbf:bv=false:=by
    cases bv with
    |false=>rfl
    |true=>exact absurd (hb.mp rfl) (hno.resolve_left he)
   subst hbf;refine iteT ?_
   exact⟨_,rfl,rfl,k H5 (s04.trans s5)⟩
  .refine⟨_,rfl,a,_,_,_,rfl,rfl,SqT.of (s1 _ _ q1),zai (j:=3) rfl,(by show 0<=sizeLine;decide),λt2 ht2=>?_⟩;have s2:=Same.up (o:=.tup []) ht2;have e2:upd H1 t2 (.tup []) t2=some (.tup []):=zaa;generalize upd H1 t2 (.tup [])=H2 at s2 e2 ⊢;refine⟨tI (rowI r.row),tI [],.tup (SqT.of ((s1.trans s2) _ _ q2')) (RDs.ints _),.tup (SqT.of e2) .nil,zaD _,zaD _,_,rfl,?_⟩;rw[zcC];refine iteN (decide_eq_false (λz=>he (List.map_eq_nil_iff.mp z))) ?_
   have s02:=s1.trans s2;refine zd7 (zhd (zcE (K:=K) (σ:=[some (.ref a),some u,none]) (λR h=>⟨_,rfl,a,_,_,_,rfl,rfl,SqT.of (s02 _ _ q1),zai (j:=3) rfl,h⟩) (s02 _ _ q2) hlen λq H3 hq s3 e3=>?_));refine⟨q,_,rfl,.inl ⟨SqL.of e3,λp4 hp4=>?_⟩⟩;have s4:=Same.up (o:=.tup (rowV (shf r.row))) hp4;have e4:upd H3 p4 (.tup (rowV (shf r.row))) p4=some (.tup (rowV (shf r.row))):=zaa;generalize upd H3 p4 (.tup (rowV (shf r.row)))=H4 at s4 e4 ⊢;have s04:=s02.trans (s3.trans s4);refine⟨_,rfl,_,rfl,.ref a,r,p4,shf r.row,rfl,hv.kt (KT.of s04),hso,SqT.of e4,zhv he,h8,by lia,λbv H5 hb s5=>⟨_,rfl,?_⟩⟩;have hbt:bv=true:=hb.mpr hG;subst hbt;refine iteF ?_
   have hne:=zhv he;have hnn:(nL (WE (r.x,r.y) (shf r.row)):Int)-nS (WE (r.x,r.y) (shf r.row))=moreL r.so:=by rw[nL_WE hne,nS_WE hne];exact hG.2.1
   have ow:=(hio.fnd hne h8 hG.1 hso hnn).own hne hG.1;have s15:=s2.trans (s3.trans (s4.trans s5));have ho5:=ho.kt (KT.of s15);have hoso:SoOk o:=by unfold SoOk;rw[ow.eso];exact hso
   have hol:o.row.length<=480:=by rw[ow.len];lia
   refine⟨_,rfl,u,o,rfl,ho5,hoso,by lia,λH6 s6=>⟨_,rfl,?_⟩⟩;have s16:=s15.trans s6;have s06:=s04.trans (s5.trans s6)
   have h8o:∀s∈o.row,s<8:=λs hs=>by
    obtain⟨t,_,_,ht⟩:=ow.shift;refine h8 s ?_
    rw[<- ht,Aj];rcases Aj.mp (by rw[BJ];exact hs:s∈o.row.take t++o.row.drop t) with z |z
    .exact .inr z
    .exact .inl z
   have hneo:o.row≠[]:=λz=>by have:=ow.len;rw[z,B6]at this;exact hne (DI.mp this.symm)
   have ho6:=ho5.kt (KT.of s6);obtain⟨c,cr,rfl,c1,c2⟩:=id ho6;have r6:=s06 _ _ q1;have e6:=(s5.trans s6) _ _ e4;have hlo:(rowV o.row).length=o.row.length:=Am ..;have hls:(rowV (shf r.row)).length=(shf r.row).length:=Am ..;refine iteF ?_
   refine⟨_,rfl,c,_,_,_,rfl,rfl,SqT.of c1,zai (j:=0) rfl,_,rfl,a,_,_,_,rfl,rfl,SqT.of r6,zai (j:=0) rfl,rfl,_,rfl,iteN (by rw[ow.eso,decide_eq_true rfl];rfl) ?_⟩;refine⟨_,rfl,c,_,_,_,rfl,rfl,SqT.of c1,zai (j:=3) rfl,cr,_,rfl,.inr (SqT.of c2),_,rfl,p4,_,rfl,.inr (SqT.of e6),rfl,_,rfl,iteN ?_ ?_⟩
   .rw[hlo,hls,ow.len,decide_eq_true rfl];rfl
   refine⟨_,rfl,_,rfl,_,rfl,.ref a,.ref c,r,o,p4,shf r.row,rfl,hv.kt (KT.of s06),ho6,e6,h8o,hol,ow.len,ow.shift,λH7 s7=>?_⟩;refine⟨_,rfl,iteT ?_⟩;exact⟨_,rfl,.ref c,o,rfl,ho6.kt (KT.of s7),hoso,hneo,h8o,hol,ow.beg,λH8 s8=>k H8 (s06.trans (s7.trans s8))⟩
noncomputable def Boxed(m:Nat)(cs:List Cell):Prop:=∃(x y:Int) (w h:Nat),w*h<=m/\∀c∈cs,x<=c.1/\c.1<x+w/\y<=c.2/\c.2<y+h
noncomputable def apart(o:Cell)(k:Int)(c:Cell):Cell:=(o.1+(c.1-o.1)*k,o.2+(c.2-o.2)*k)
noncomputable def zmx(H:Hp)(p:Addr)(t:Int):Prop:=∃c:Int,H p=some (.lst [.int c,.int t])/\0<=t/\t<2 ^ 40
theorem cpow{i j:Int}(h:0<=j/\j<=1000000/\i.natAbs<2 ^ 64):CPow i j:=h
noncomputable def zhu(K:W.Frag):Sp:=λvs H Q _=>∃(a:Addr) (ns:List Int) (k:Nat),vs=[.ref a,.int k]/\SqL K H a (ns.map V.int)/\∀n,Q (.int n) H
theorem zew (T:Txt P w K mg) (d:Df K mg "_law_cell_at" zbT ["_law_script","_law_k"]):FnOk P w K mg base CX0 1 d.f d.fd ["_law_script","_law_k"] (zhu K):=by
 refine d.F.ok zdP (λvs H Q E h=>?_) (λcdv A outer s H vs Q E hr h=>?_)
 .obtain⟨a,ns,k,rfl,_⟩:=h;rfl
 .obtain⟨a,ns,i,rfl,hq,k⟩:=h
  refine⟨_,(zac (ps_if (zao op_lt (pv 1) (zaw zaK (by rfl) T.nlen (by rfl) (pa_N (pv 0) zad)) (zan _))
   (zaf (zaj (pe_ix zaE (pv 0) (pv 1) (λ_ _=>rfl))))
   zas)
   (zaf (zaj zab))),?_⟩
  refine⟨_,rfl,_,rfl,a,_,rfl,.inl hq,_,_,rfl,rfl,_,rfl,?_⟩;refine ite2 (λhy=>?_) (λhn=>k 0)
  have hlt:i<ns.length:=by have:=of_decide_eq_true hy;rw[Am]at this;lia
  exact⟨_,rfl,_,rfl,a,_,_,_,rfl,rfl,hq,zai (v:=.int ns[i]) (by simp[hlt]),k _⟩
noncomputable def zkE:Sp:=λvs H Q _=>∃(p:Addr) (t b:Int),vs=[.ref p,.int b]/\zmx H p t/\0<b/\b.natAbs.log2<9000/\∀(n c:Int),0<=n->n<b->Q (.int n) (upd H p (.lst [.int c,.int (t+1)]))
theorem zg3 (T:Txt P w K mg) (d:Df K mg "_law_take" zcI ["_law_pen","_law_base"]):FnOk P w K mg base CX0 1 d.f d.fd ["_law_pen","_law_base"] zkE:=by
 refine d.F.ok zbu (λvs H Q E h=>?_) (λcdv A outer s H vs Q E hr h=>?_)
 .obtain⟨p,t,b,rfl,_⟩:=h;rfl
 .obtain⟨p,t,b,rfl,⟨c,hp,ht0,ht1⟩,hb,hlog,k⟩:=h
  refine⟨_,(zac (zbw (pe_op zaF (pe_ix zaE (pv 0) zab (λ_ _=>rfl)) zab) (zkK (pv 0) zab zhx))
   (zac (ps_if (zao op_ge (zaw zhZ (by rfl) T.nabs (by rfl) (zag (pe_ix zaE (pv 0) zab (λ_ _=>rfl)) zad)) (pe_op zeT zab zab) (zan _))
   (zac (sE 2 zbu.nd (pe_op zbi (zaw zhZ (by rfl) T.nabs (by rfl) (zag (pe_ix zaE (pv 0) zab (λ_ _=>rfl)) zad)) (pe_op zeT zab zab)))
   (zac (zbw (pe_op zaF (pe_op zeT zab zab) (pe_op zhF (pv 2) (pv 1))) (zkK (pv 0) zab zhx))
   (zaf (zaj (pe_op zaN (pv 2) (pv 1))))))
   zas)
   (zac (sE 3 zbu.nd (pe_op zaF (pe_op zbK (pe_op zaN (pe_ix zaE (pv 0) zab (λ_ _=>rfl)) zab) zab) (pe_op zbK (pe_op zbK zab (pe_ix zaE (pv 0) zab (λ_ _=>rfl))) (pe_ix zaE (pv 0) zab (λ_ _=>rfl)))))
   (zac (sE 3 zbu.nd (pe_op zaN (pe_op zaF (pe_op zaF (pv 3) (pe_op zbK zab (pe_ix zaE (pv 0) zab (λ_ _=>rfl)))) zab) zab))
   (zac (sE 3 zbu.nd (pe_op zaN (pe_op zaF (pe_op zaF (pe_op zbK (pv 3) (pv 3)) (pe_op zbK zab (pv 3))) (pe_ix zaE (pv 0) zab (λ_ _=>rfl))) zab))
   (zaf (zaj (pe_op zaN (pe_op zbU (pv 3) zab) (pv 1))))))))),?_⟩
  refine⟨_,rfl,p,_,_,_,rfl,rfl,SqL.of hp,zai (j:=1) rfl,_,_,rfl,rfl,_,rfl,p,_,_,1,rfl,rfl,hp,rfl,?_⟩;have h1:upd H p (.lst [.int c,.int (t+1)]) p=some (.lst [.int c,.int (t+1)]):=zaa;have hmod:∀z:Int,0<=z % b/\z % b<b:=λz=>⟨Int.emod_nonneg _ (by lia),Int.emod_lt_of_pos _ hb⟩
  refine⟨_,rfl,p,_,_,_,rfl,rfl,SqL.of h1,zai (j:=0) rfl,c,rfl,_,_,rfl,rfl,(by refine cpow ?_;decide),_,_,rfl,rfl,_,rfl,?_⟩;refine ite2 (λ_=>?_) (λ_=>?_)
  .refine⟨_,rfl,p,_,_,_,rfl,rfl,SqL.of h1,zai (j:=0) rfl,c,rfl,_,_,rfl,rfl,(by refine cpow ?_;decide),_,_,rfl,rfl,?_⟩;refine⟨_,_,rfl,rfl,(by refine cpow ?_;decide),_,rfl,_,rfl,_,_,rfl,rfl,⟨hb,hlog⟩,_,_,rfl,rfl,_,rfl,p,_,_,0,rfl,rfl,h1,rfl,?_⟩;refine⟨_,rfl,_,rfl,_,_,rfl,rfl,hb,?_⟩;rw[zk8];exact k _ _ (hmod _).1 (hmod _).2
  .refine⟨_, rfl, p, _, _, _, rfl, rfl, SqL.of h1, zai (j := 0) rfl, _, _, rfl, rfl, (by show (0:Int) < 2147483647; decide), _, _, rfl, rfl, .inr ⟨by decide, by decide⟩,
    _,rfl,p,_,_,_,rfl,rfl,SqL.of h1,zai (j:=1) rfl,_,_,rfl,rfl,.inl ⟨by decide,by decide⟩,_,rfl,p,_,_,_,rfl,rfl,SqL.of h1,zai (j:=1) rfl,_,_,rfl,rfl,.inr ⟨by lia,by lia⟩,_,_,rfl,rfl,?_⟩
   refine⟨_,rfl,_,rfl,p,_,_,_,rfl,rfl,SqL.of h1,zai (j:=1) rfl,_,_,rfl,rfl,.inl ⟨by decide,by decide⟩,_,_,rfl,rfl,_,_,rfl,rfl,_,_,rfl,rfl,(by show (0:Int)<2147483629;decide),?_⟩
   refine⟨_,rfl,_,rfl,_,_,rfl,rfl,.inl ⟨Int.lt_of_lt_of_le (show (-(2 ^ 64):Int)<0 by decide) (Int.emod_nonneg _ (by decide)),Int.lt_trans (Int.emod_lt_of_pos _ (by decide)) (by decide)⟩,_,rfl,_,_,rfl,rfl,.inl ⟨by decide,by decide⟩,_,_,rfl,rfl,
    _,rfl,p,_,_,_,rfl,rfl,SqL.of h1,zai (j:=1) rfl,_,_,rfl,rfl,_,_,rfl,rfl,(by show (0:Int)<2147483587;decide),?_⟩
   refine⟨_,rfl,_,_,rfl,rfl,⟨by decide,by decide⟩,_,rfl,_,_,rfl,rfl,hb,?_⟩;exact k _ _ (hmod _).1 (hmod _).2
noncomputable def HasB(H:Hp)(p:Addr)(n:Nat):Prop:=∃c t:Int,H p=some (.lst [.int c,.int t])/\0<=t/\t+n<2 ^ 40
theorem HasB.le{H:Hp}{p:Addr}{n m:Nat}(h:HasB H p n)(hm:m<=n):HasB H p m:=let ⟨c,t,e,a,b⟩:=h;⟨c,t,e,a,by lia⟩
theorem HasB.same{H H':Hp}{p:Addr}{n:Nat}(h:HasB H p n)(s:Same H H'):HasB H' p n:=let ⟨c,t,e,a,b⟩:=h;⟨c,t,s _ _ e,a,b⟩
noncomputable def But(H H':Hp)(p:Addr):Prop:=∀z o,z≠p->H z=some o->H' z=some o
theorem But.refl(H:Hp)(p:Addr):But H H p:=λ_ _ _ h=>h
theorem But.trans{H H1 H2:Hp}{p:Addr}(a:But H H1 p)(b:But H1 H2 p):But H H2 p:=λz o hz h=>b z o hz (a z o hz h)
theorem But.of{H H1:Hp}{p:Addr}(a:Same H H1):But H H1 p:=λz o _ h=>a z o h
theorem But.free{H H1:Hp}{p q:Addr}{n:Nat}(a:But H H1 p)(h:HasB H p n)(hq:H1 q=none)(hp:HasB H1 p 0):H q=none:=by
 obtain⟨c,t,e,_⟩:=hp;have hne:q≠p:=λz=>by subst z;rw[e]at hq;cases hq
 cases x:H q with
 |none=>rfl
 |some o=>rw[a q o hne x]at hq;cases hq
theorem But.kt{H H1:Hp}{p:Addr}{n:Nat}(a:But H H1 p)(h:HasB H p n):KT H H1:=λb xs e=>by obtain⟨c,t,ep,_⟩:=h;exact a b _ (ne_of e ep (λz=>nomatch z)) e
theorem zjZ{A:Prop}{D:Int->Hp->Prop}(C:Int->Hp->Prop)(g:(∀n H1,D n H1->C n H1)->A)(h:∀n H1,D n H1->C n H1):A:=g h
theorem za9{b:Int}(h0:0<b)(h:b<=1000):b.natAbs.log2<9000:=by refine (Nat.log2_lt (by lia)).mpr (A6 (show b.natAbs<2 ^ 10 by lia) (Nat.pow_le_pow_right (by decide) (by decide)))
noncomputable def spTk:Sp:=λvs H Q _=>∃(p:Addr) (n:Nat) (b:Int),vs=[.ref p,.int b]/\HasB H p (n+1)/\0<b/\b.natAbs.log2<9000/\∀(r:Int) (H':Hp),0<=r->r<b->But H H' p->HasB H' p n->Q (.int r) H'
theorem tk_of {f:Addr}{fd:Bv}(h:FnOk P w K mg base CX0 1 f fd ["_law_pen","_law_base"] zkE):FnOk P w K mg base CX0 1 f fd ["_law_pen","_law_base"] spTk:=by
 refine h.imp λvs H Q E h=>?_
 obtain⟨p,n,b,rfl,⟨c,t,e,h0,h1⟩,hb,hl,k⟩:=h;refine⟨p,t,b,rfl,⟨c,e,h0,by lia⟩,hb,hl,λr c' h2 h3=>k r _ h2 h3 (λz o hz h=>by rw[zam hz];exact h) ⟨c',t+1,zaa,by lia,by lia⟩⟩
noncomputable abbrev Tk (P:AF) (w:A4) (K:W.Frag) (mg:Str->Option Value) (base:Heap):=Fn P w K mg base 1 "_law_take" ["_law_pen","_law_base"] spTk
noncomputable def spFar:Sp:=λvs H Q _=>∃(p:Addr) (n:Nat),vs=[.ref p]/\HasB H p (n+3)/\∀(r:Int) (H':Hp),-(2 ^ 104)<r/\r<2 ^ 104->But H H' p->HasB H' p n->Q (.int r) H'
theorem atI3{a b c:V}{n:Int}(h0:0<=n)(h3:n<3):∃v,atI [a,b,c] n=some v/\(v=a∨v=b∨v=c):=by
 have:n=0∨n=1∨n=2:=by lia
 rcases this with rfl |rfl |rfl
 .exact⟨a,rfl,.inl rfl⟩
 .exact⟨b,rfl,.inr (.inl rfl)⟩
 .exact⟨c,rfl,.inr (.inr rfl)⟩
theorem zih (g__law_take:Tk P w K mg base) (d:Df K mg "_law_far" zdb ["_law_pen"]):FnOk P w K mg base CX0 2 d.f d.fd ["_law_pen"] spFar:=by
 refine d.F.ok zdO (λvs H Q E h=>?_) (λcdv A outer s H vs Q E hr h=>?_)
 .obtain⟨p,n,rfl,_⟩:=h;rfl
 .obtain⟨p,n,rfl,hp,k⟩:=h
  refine⟨_,(zac (sE 1 zdO.nd (pC g__law_take hr (pa_N (pv 0) (pa_C zab zad))))
   (zac (ps_if (zao op_lt (pv 1) zab (zan _))
   (zaf (zaj (pe_ix zaE (zaX (pa_C zab (pa_B (pe_op zbi (pC g__law_take hr (pa_N (pv 0) (pa_C zab zad))) zab) (pa_B (pe_op zbi (pC g__law_take hr (pa_N (pv 0) (pa_C zab zad))) zab) zad)))) (pv 1) (λ_ _=>rfl))))
   zas)
   (zaf (zaj (pe_op zaF (pe_op zbi (pC g__law_take hr (pa_N (pv 0) (pa_B (pe_op zbi (pe_op zbK zab (pe_op zeT zab zab)) zab) zad))) (pe_op zeT zab zab)) zab))))),?_⟩
  refine⟨_,rfl,p,n+2,4,rfl,hp,by decide,za9 (by decide) (by decide),λr H1 h0 h4 b1 p1=>?_⟩;refine⟨_,rfl,_,_,rfl,rfl,_,rfl,?_⟩;refine ite2 (λhy=>?_) (λhn=>?_)
  .have h3:r<3:=of_decide_eq_true hy;refine⟨_,rfl,p,n+1,41,rfl,p1,by decide,za9 (by decide) (by decide),λr2 H2 x1 x2 b2 p2=>⟨_,_,rfl,rfl,?_⟩⟩;refine⟨_,rfl,p,n,2000001,rfl,p2,by decide,by decide +kernel,λr3 H3 y1 y2 b3 p3=>⟨_,_,rfl,rfl,three,λl hl=>?_⟩⟩;obtain⟨v,hv,hor⟩:=atI3 (a:=.int 0) (b:=.int (r2-20)) (c:=.int (r3-1000000)) h0 h3;refine⟨_,rfl,l,_,_,v,rfl,rfl,SqL.of zaa,hv,?_⟩;have fin:∀z:Int,-(2 ^ 104)<z/\z<2 ^ 104->Q (.int z) (upd H3 l (.lst [.int 0,.int (r2-20),.int (r3-1000000)])):=λz hz=>k z _ hz ((b1.trans (b2.trans b3)).trans (But.of (Same.up hl))) (p3.same (Same.up hl))
   rcases hor with z |z |z <;> rw[z] <;> exact fin _ (by lia)
  .refine⟨_,rfl,_,_,rfl,rfl,(by refine cpow ?_;decide),_,_,rfl,rfl,.inl ⟨by decide,by decide⟩,_,_,rfl,rfl,p,n+1,_,rfl,p1,(by decide),(by decide +kernel),λr2 H2 x1 x2 b2 p2=>?_⟩;refine⟨_,_,rfl,rfl,(by refine cpow ?_;decide),_,_,rfl,rfl,_,_,rfl,rfl,?_⟩;refine k _ _ ?_ (b1.trans b2) (p2.le (by lia))
   have x2':r2<2*10 ^ 30-799:=x2;show -(2 ^ 104)<r2-10 ^ 30+400/\r2-10 ^ 30+400<2 ^ 104;lia
noncomputable def ziF:Sp:=λvs H Q _=>∃(p:Addr) (n:Nat) (way x y wd hg:Int),vs=[.ref p,.int way,.int x,.int y,.int wd,.int hg]/\0<=way/\HasB H p (n+1)/\∀(b:Bool) (H':Hp),But H H' p->HasB H' p n->Q (.bl b) H'
theorem zd2 (T:Txt P w K mg) (g__law_take:Tk P w K mg base) (d:Df K mg "_law_is_there" zbH ["_law_pen", "_law_way", "_law_x", "_law_y", "_law_wide", "_law_high"]) :
  FnOk P w K mg base CX0 2 d.f d.fd ["_law_pen","_law_way","_law_x","_law_y","_law_wide","_law_high"] ziF:=by
 refine d.F.ok zds (λvs H Q E h=>?_) (λcdv A outer s H vs Q E hr h=>?_)
 .obtain⟨p,n,way,x,y,wd,hg,rfl,_⟩:=h;rfl
 .obtain⟨p,n,way,x,y,wd,hg,rfl,hw,hp,k⟩:=h
  refine⟨_,(zac (ps_if (zao op_eq (pv 1) zab (zan _))
   (zaf (zaj pe_bl))
   zas)
   (zac (ps_if (zao op_lt (pv 1) zab (zan _))
   (zaf (zaj (zaT op_lt (pC g__law_take hr (pa_N (pv 0) (zag (pe_ix zaE (zaX (pa_C zab (pa_C zab (pa_C zab zad)))) (pe_op zbi (pv 1) zab) (λ_ _=>rfl)) zad))) (pe_ix zaE (zaX (pa_C zab (pa_C zab (pa_C zab zad)))) (pe_op zbi (pv 1) zab) (λ_ _=>rfl)) (zan _))))
   zas)
   (zac (ps_if (zao op_eq (pv 1) zab (zan _))
   (zaf (zaj (zaT op_eq (pe_op zaN (zaw (zjQ rfl) (by rfl) T.nmin (by rfl) (pa_N (pv 2) (pa_N (pv 3) (pa_B (pe_op zbi (pe_op zbi (pv 4) zab) (pv 2)) (pa_B (pe_op zbi (pe_op zbi (pv 5) zab) (pv 3)) zad))))) zab) zab (zan _))))
   zas)
   (zaf (zaj (pe_or (zaT op_eq (pe_op zaN (pe_op zaF (pv 2) (pv 3)) zab) zab (zan _)) (zeS (zaT op_eq (pC g__law_take hr (pa_N (pv 0) (pa_C zab zad))) zab (zan _))))))))),?_⟩
  have fin:∀b,Q (.bl b) H:=λb=>k b H (But.refl _ _) (hp.le (by lia))
  refine⟨_,rfl,rfl,_,rfl,?_⟩;refine ite2 (λ_=>fin _) (λhn0=>?_);refine⟨_,rfl,_,_,rfl,rfl,_,rfl,?_⟩;refine ite2 (λhy=>?_) (λ_=>?_)
  .have h4:way<4:=of_decide_eq_true hy;have hne:way≠0:=λz=>hn0 (by rw[z];rfl)
   refine⟨_,rfl,three,λl hl=>?_⟩;obtain⟨v,hv,hor⟩:=atI3 (a:=V.int 2) (b:=V.int 5) (c:=V.int 4) (n:=way-1) (by lia) (by lia)
   obtain⟨bb,rfl,hb0,hb1⟩:∃bb:Int,v=.int bb/\0<bb/\bb<=1000:=by
    rcases hor with z |z |z
    .exact⟨2,z,by decide,by decide⟩
    .exact⟨5,z,by decide,by decide⟩
    .exact⟨4,z,by decide,by decide⟩
   refine⟨_,rfl,_,_,rfl,rfl,l,_,_,_,rfl,rfl,SqL.of zaa,hv,p,n,bb,rfl,hp.same (Same.up hl),hb0,za9 hb0 hb1,λr H1 _ _ b1 p1=>?_⟩;refine⟨three,λl2 hl2=>?_⟩;obtain⟨v2,hv2,hor2⟩:=atI3 (a:=V.int 1) (b:=V.int 4) (c:=V.int 1) (n:=way-1) (by lia) (by lia)
   obtain⟨b2,rfl⟩:∃bb:Int,v2=.int bb:=by
    rcases hor2 with z |z |z
    .exact⟨1,z⟩
    .exact⟨4,z⟩
    .exact⟨1,z⟩
   refine⟨_,rfl,_,_,rfl,rfl,l2,_,_,_,rfl,rfl,SqL.of zaa,hv2,_,_,rfl,rfl,?_⟩;exact k _ _ (((But.of (Same.up hl)).trans b1).trans (But.of (Same.up hl2))) (p1.same (Same.up hl2))
  .refine⟨_,rfl,rfl,_,rfl,?_⟩;refine ite2 (λ_=>?_) (λ_=>?_)
   .refine⟨_,rfl,_,rfl,_,rfl,_,_,rfl,rfl,_,rfl,_,_,rfl,rfl,_,rfl,_,_,rfl,rfl,_,rfl,_,_,rfl,rfl,_,_,_,_,rfl,λz=>⟨_,_,rfl,rfl,(by show (0:Int)<2;decide),rfl,fin _⟩⟩
   .refine⟨_,rfl,_,rfl,_,_,rfl,rfl,_,_,rfl,rfl,(by show (0:Int)<2;decide),rfl,_,rfl,?_⟩;refine ite2 (λ_=>fin _) (λ_=>?_);refine⟨_,rfl,p,n,6,rfl,hp,by decide,za9 (by decide) (by decide),λr H1 _ _ b1 p1=>⟨rfl,k _ _ b1 p1⟩⟩
noncomputable def Bef(cs:List Cell)(x y:Int):Prop:=∀c∈cs,c.2<y∨(c.2=y/\c.1<x)
theorem InOrd.snoc{cs:List Cell}{x y:Int}(h:InOrd cs)(b:Bef cs x y):InOrd (cs++[(x,y)]):=λi c e h1 h2=>by
 have hi:i+1<(cs++[(x,y)]).length:=(Ac.mp h2).1;rw[Af,BR]at hi;rw[Ar (by lia)]at h1;rcases A8 (i+1) cs.length with hl |hl
 .rw[Ar hl]at h2;exact h i c e h1 h2
 .rw[AJ hl,show i+1-cs.length=0 by lia]at h2
  cases h2
  have hb:=b c (As h1);rw[HT.lexLt_cons];rcases hb with z |⟨z1,z2⟩
  .rw[if_neg (by lia)];exact decide_eq_true z
  .rw[if_pos z1,HT.lexLt_cons,if_neg (by lia)];exact decide_eq_true z2
noncomputable def CellB(c:Cell):Prop:=(-(2 ^ 105)<c.1/\c.1<2 ^ 105)/\-(2 ^ 105)<c.2/\c.2<2 ^ 105
noncomputable def zf3(K:W.Frag):Sp:=λvs H Q _=>∃(p:Addr) (n m:Nat),vs=[.ref p,.int m]/\HasB H p (n+(20+m))/\1<=m/\m<=200 /\
 ∀(a:Addr) (cs:List Cell) (H':Hp),H a=none->But H H' p->HasB H' p n->(∃vs,H' a=some (.lst vs)/\VR vs cs cR H')->InOrd cs->Boxed m cs->cs.length<=m->(∀c∈cs,CellB c)->Q (.ref a) H'
theorem zeu (T:Txt P w K mg) (g__law_take:Tk P w K mg base) (g__law_far:Fn P w K mg base 2 "_law_far" ["_law_pen"] spFar)
    (g__law_is_there:Fn P w K mg base 2 "_law_is_there" ["_law_pen","_law_way","_law_x","_law_y","_law_wide","_law_high"] ziF) (d:Df K mg "_law_picture" zbS ["_law_pen","_law_most"]) :
    FnOk P w K mg base CX0 3 d.f d.fd ["_law_pen","_law_most"] (zf3 K):=by
  refine d.F.ok zaz (λvs H Q E h=>?_) (λcdv A outer s H vs Q E hr h=>?_)
  . obtain⟨p,n,m,rfl,_⟩:=h;rfl
  . obtain⟨p,n,m,rfl,hp,hm1,hm,k⟩:=h
    refine⟨_,(zac (sE 2 zaz.nd (pe_op zaF zab (pC g__law_take hr (pa_N (pv 0) (zag (zfh (zao op_gt (pv 1) zab (zan _)) (pe_ix zaE (zaX (pa_C zab (pa_N (pv 1) zad))) (zbJ zc7 (by rfl) T.nint (by rfl) (zag (zaT op_eq (pC g__law_take hr (pa_N (pv 0) (pa_C zab zad))) zab (zan _)) zad)) (λ_ _=>rfl)) (pv 1)) zad)))))
      (zac (sE 3 zaz.nd (pe_op zaF zab (pC g__law_take hr (pa_N (pv 0) (pa_B (pe_op zhF (pv 1) (pv 2)) zad)))))
      (zac (sE 4 zaz.nd (pC g__law_take hr (pa_N (pv 0) (pa_C zab zad))))
      (zac (sE 5 zaz.nd (pC g__law_far hr (pa_N (pv 0) zad)))
      (zac (sE 6 zaz.nd (pC g__law_far hr (pa_N (pv 0) zad)))
      (zac (sE 7 zaz.nd (zaX zad))
      (zac (zbI Bd rfl (zb0 (by rfl) T.nrange (pa_N (pv 3) zad)) (nG 8 zaz.nd)
      (zaf (zbI Bd rfl (zb0 (by rfl) T.nrange (pa_N (pv 2) zad)) (nG 9 zaz.nd)
      (zaf (ps_if (zco (pC g__law_is_there hr (pa_N (pv 0) (pa_N (pv 4) (pa_N (pv 9) (pa_N (pv 8) (pa_N (pv 2) (pa_N (pv 3) zad))))))))
      (zaf (za8 (pe_bm AT AY AZ zaP (pv 7) (pa_T (zav (pa_B (pe_op zaF (pv 9) (pv 5)) (pa_B (pe_op zaF (pv 8) (pv 6)) zad))) zad))))
      zas)))))
      (zaf (zaj (pv 7)))))))))),?_⟩
    refine zjZ (D:=λr H1=>0<=r/\r<m/\But H H1 p/\HasB H1 p (n+(18+m))) ?C (λshare=>?g) ?h
    case g =>
      refine⟨_,rfl,_,rfl,_,_,rfl,rfl,_,rfl,?_⟩;refine ite2 (λhy=>?_) (λhn=>?_)
      . have h12:(12:Int)<m:=of_decide_eq_true hy;refine⟨_,rfl,two,λl hl=>?_⟩;refine⟨_,rfl,p,n+(19+m),4,rfl,(hp.same (Same.up hl)).le (by lia),by decide,za9 (by decide) (by decide),λr H1 _ _ b1 p1=>?_⟩;refine⟨rfl,.inr ⟨_,rfl,?_⟩⟩;obtain⟨c0,t0,e0,_⟩:=hp;have hlp:l≠p:=λz=>by subst z;rw[e0]at hl;cases hl
        have l1:H1 l=some (.lst [.int 12,.int m]):=b1 _ _ hlp zaa
        obtain⟨v,hv,bb,rfl,hb0,hb1⟩:∃v,atI [V.int 12,V.int (m:Int)] (if decide (V.int r=V.int 0)=true then 1 else 0)=some v/\∃bb:Int,v=.int bb/\0<bb/\bb<=m:=by
          by_cases hz:decide (V.int r=V.int 0)=true
          . rw[if_pos hz];exact⟨_,rfl,m,rfl,by lia,by lia⟩
          . rw[if_neg hz];exact⟨_,rfl,12,rfl,by decide,by lia⟩
        refine⟨l,_,_,_,rfl,rfl,SqL.of l1,hv,p,n+(18+m),bb,rfl,p1.le (by lia),hb0,za9 hb0 (by lia),λr2 H2 h0 h2 b2 p2=>?_⟩;exact share r2 H2 ⟨h0,by lia,((But.of (Same.up hl)).trans b1).trans b2,p2⟩
      . refine⟨_,rfl,p,n+(18+m),m,rfl,hp.le (by lia),by lia,za9 (by lia) (by lia),λr2 H2 h0 h2 b2 p2=>?_⟩;exact share r2 H2 ⟨h0,h2,b2,p2⟩
    case h =>
      rintro r H1 ⟨h0,hrm,b1,p1⟩;refine⟨_,_,rfl,rfl,?_⟩;have hwd:0<1+r:=by lia
      obtain⟨W,hW⟩:∃W:Nat,(1+r:Int)=W:=⟨(1+r).toNat,by lia⟩;have hq1:1<=(m:Int) / (1+r):=Int.le_ediv_of_mul_le hwd (by lia);have hq2:(m:Int) / (1+r)<=m:=Int.ediv_le_self _ (by lia);have hq3:(1+r)*((m:Int) / (1+r))<=m:=Int.mul_ediv_self_le (by lia);refine⟨_,rfl,_,rfl,_,rfl,_,_,rfl,rfl,⟨hwd,za9 hwd (by lia)⟩,p,n+(17+m),_,rfl,p1.le (by lia),by lia,za9 (by lia) (by lia),λr2 H2 h20 h2 b2 p2=>⟨_,_,rfl,rfl,?_⟩⟩;obtain⟨G,hG⟩:∃G:Nat,(1+r2:Int)=G:=⟨(1+r2).toNat,by lia⟩
      have hWG:W*G<=m:=by
        have h1:(1+r)*(1+r2)<=(1+r)*((m:Int) / (1+r)):=Int.mul_le_mul_of_nonneg_left (by lia) (by lia);rw[hW,hG]at h1;rw[hW]at hq3
        have h2:((W*G:Nat):Int)<=m:=by rw[Int.natCast_mul];lia
        lia
      refine⟨_,rfl,p,n+(16+m),6,rfl,p2.le (by lia),by decide,za9 (by decide) (by decide),λr3 H3 h30 _ b3 p3=>?_⟩;refine⟨_,rfl,p,n+(13+m),rfl,p3.le (by lia),λdx H4 fx b4 p4=>?_⟩;refine⟨_,rfl,p,n+(10+m),rfl,p4.le (by lia),λdy H5 fy b5 p5=>?_⟩;refine⟨(by show 0<=sizeLine;decide),λq hq=>?_⟩;have b05:But H H5 p:=b1.trans (b2.trans (b3.trans (b4.trans b5)));have hq0:H q=none:=b05.free hp hq (p5.le (by lia))
      have hqp:q≠p:=λz=>by obtain⟨c0,t0,e0,_⟩:=hp;subst z;rw[e0]at hq0;cases hq0
      refine⟨_,rfl,1+r2,rfl,by lia,by lia,?_⟩;have hGn:(1+r2:Int).toNat=G:=by lia
      have hWn:(1+r:Int).toNat=W:=by lia
      rw[hGn]
      refine zbN (lo := 0) (n := G) (λi σ H6 => ∃o8 o9 cs vs, σ = [some (.ref p), some (.int m), some (.int (1 + r)), some (.int (1 + r2)), some (.int r3), some (.int dx), some (.int dy), some (.ref q), o8, o9] /\ But H H6 p /\ HasB H6 p (n + (m-W * i)) /\
          H6 q=some (.lst vs)/\VR vs cs cR H6/\InOrd cs/\(cs.length<=W*i/\(∀c∈cs,dx<=c.1/\c.1<dx+W/\dy<=c.2))/\Bef cs dx (dy+i))
        ⟨_,_,[],[],rfl,b05.trans (But.of (Same.up hq)),(p5.same (Same.up hq)).le (by lia),zaa,VR.nil,(λi c e h=>by simp at h),⟨Be _,λc hc=>by cases hc⟩,(λc hc=>by cases hc)⟩ ?_ ?_
      . rintro i σ H6 hi ⟨o8,o9,cs,vs,rfl,b6,p6,q6,hv,ho,hl,hbf⟩;have hWi:W*i+W<=W*G:=by rw[<- Nat.mul_succ];exact Nat.mul_le_mul_left _ hi
        refine⟨_,rfl,1+r,rfl,by lia,by lia,?_⟩;rw[hWn]
        refine zbN (lo := 0) (n := W) (λj σ H7 => ∃o9 cs vs, σ = [some (.ref p), some (.int m), some (.int (1 + r)), some (.int (1 + r2)), some (.int r3), some (.int dx), some (.int dy), some (.ref q), some (.int (0 + (i:Int))), o9] /\ But H H7 p /\ HasB H7 p (n + (m-(W * i + j))) /\
            H7 q=some (.lst vs)/\VR vs cs cR H7/\InOrd cs/\(cs.length<=W*i+j/\(∀c∈cs,dx<=c.1/\c.1<dx+W/\dy<=c.2))/\Bef cs (dx+j) (dy+i))
          ⟨_,cs,vs,rfl,b6,p6,q6,hv,ho,hl,by simpa using hbf⟩ ?_ ?_
        . rintro j σ H7 hj ⟨o9,cs,vs,rfl,b7,p7,q7,hv,ho,⟨hl,hbox⟩,hbf⟩;refine⟨_,rfl,_,rfl,_,rfl,_,rfl,_,rfl,_,rfl,p,n+(m-(W*i+j+1)),_,_,_,_,_,rfl,h30,p7.le (by lia),λb H8 b8 p8=>⟨_,rfl,?_⟩⟩;have q8:=b8 _ _ hqp q7;have kt8:=b8.kt p7;refine ite2 (λ_=>?_) (λ_=>?_)
          . have hvl:vs.length<=1000:=by rw[hv.1];lia
            refine⟨_,rfl,.inl ⟨rfl,_,SqL.of q8⟩,_,rfl,_,rfl,_,_,rfl,rfl,_,rfl,_,rfl,_,_,rfl,rfl,two,λa ha=>?_⟩;have haq:q≠a:=zal q8 ha;refine⟨q,vs,_,rfl,rfl,(by rw[zam haq];exact q8),zay hvl,?_⟩
            have hap:a≠p:=λz=>by obtain⟨c0,t0,e0,_⟩:=p8;subst z;rw[e0]at ha;cases ha
            obtain⟨nc,hnc⟩:∃nc:Cell,nc=(dx+(j:Int),dy+(i:Int)):=⟨_,rfl⟩
            have hcell:[V.int (0+(j:Int)+dx),V.int (0+(i:Int)+dy)]=cellT nc:=by rw[hnc];unfold cellT;rw[show 0+(j:Int)+dx=dx+j by lia,show 0+(i:Int)+dy=dy+i by lia]
            rw[hcell];have k2:KT (upd H8 a (.tup (cellT nc))) (upd (upd H8 a (.tup (cellT nc))) q (.lst (vs++[.ref a]))):=KT.lst (xs:=vs) (by rw[zam haq];exact q8);refine⟨_,cs++[nc],vs++[.ref a],rfl,(λz o hz h=>?_),?_,zaa,?_,?_,?_,?_⟩
            . rw[zam (zal h hq0)];exact Same.up ha _ _ (b8 _ _ hz (b7 _ _ hz h))
            . obtain⟨c0,t0,e0,h1,h2⟩:=p8;refine⟨c0,t0,?_,h1,by lia⟩;rw[zam (B8 hqp),zam (B8 hap)];exact e0
            . exact hv.snoc (λx v hx=>hx.kt (kt8.trans ((KT.up ha).trans k2))) ⟨a,rfl,k2 _ _ zaa⟩
            . rw[hnc];exact ho.snoc hbf
            . refine⟨by rw[Af,BR];lia,λc hc=>?_⟩;rcases Aj.mp hc with z |z
              . exact hbox c z
              . rw[Ah.mp z,hnc];exact⟨by show dx<=dx+(j:Int);lia,by show dx+(j:Int)<dx+(W:Int);lia,by show dy<=dy+(i:Int);lia⟩
            . intro c hc;rcases Aj.mp hc with z |z
              . rcases hbf c z with y |⟨y1,y2⟩
                . exact .inl y
                . exact .inr ⟨y1,by lia⟩
              . rw[Ah.mp z,hnc];exact .inr ⟨rfl,by show dx+(j:Int)<dx+((j+1:Nat):Int);lia⟩
          . refine⟨_,cs,vs,rfl,b7.trans b8,p8.le (by lia),q8,hv.mono λx v hx=>hx.kt kt8,ho,⟨by lia,hbox⟩,λc hc=>?_⟩;rcases hbf c hc with y |⟨y1,y2⟩
            . exact .inl y
            . exact .inr ⟨y1,by lia⟩
        . rintro σ H7 ⟨o9,cs,vs,rfl,b7,p7,q7,hv,ho,⟨hl,hbox⟩,hbf⟩;refine⟨_,_,cs,vs,rfl,b7,?_,q7,hv,ho,⟨by rw[Nat.mul_succ];exact hl,hbox⟩,λc hc=>?_⟩
          . rw[Nat.mul_succ];exact p7
          . rcases hbf c hc with y |⟨y1,y2⟩
            . exact .inl (by lia)
            . exact .inl (by lia)
      . rintro σ H6 ⟨o8,o9,cs,vs,rfl,b6,p6,q6,hv,ho,⟨hl,hbox⟩,hbf⟩
        have hcell:∀c∈cs,dx<=c.1/\c.1<dx+W/\dy<=c.2/\c.2<dy+G:=λc hc=>by
          obtain⟨x1,x2,x3⟩:=hbox c hc;refine⟨x1,x2,x3,?_⟩;rcases hbf c hc with y |⟨y1,y2⟩
          . exact y
          . lia
        refine⟨_,rfl,k q cs H6 hq0 b6 (p6.le (by lia)) ⟨_,q6,hv⟩ ho ⟨dx,dy,W,G,hWG,hcell⟩ (by lia) λc hc=>?_⟩;obtain⟨x1,x2,x3,x4⟩:=hcell c hc;have hW2:W<=200:=by lia
        have hG2:G<=200:=by lia
        unfold CellB;lia
theorem zkw{C:Cell->Bool}{es:List Edge}(h:∀i<es.length-1,es[i+1]?=es[i]?.map (nxt C)):∀i e f,es[i]?=some e->es[i+1]?=some f->f=nxt C e:=λi e f h1 h2=>by have hi:=(Ac.mp h2).1;have:=h i (by lia);rw[h2,h1]at this;exact AW this
theorem zeh{C:Cell->Bool}{b:Edge}{es:List Edge}(h0:es[0]?=some b)(h1:∀i<es.length-1,es[i+1]?=es[i]?.map (nxt C))(h2:∀e∈es,e.w<4/\C e.c=true/\C (gap e)=false)(h3:es.Nodup)(h4:es[es.length-1]?.map (nxt C)=some b):Closed C b es:=by refine⟨⟨h0,zkw h1,h2,h3⟩,?_⟩;obtain⟨l,hl,hn⟩:=BX.mp h4;exact⟨l,hl,hn⟩
theorem zi1{C:Cell->Bool}{es:List Edge}{r:Rnd}{e:Edge}(hs:r.so=sortS (wk C es))(h0:((wk C es).map (·.1))[0]?=some e)(hw:e.w=kOf (sortS (wk C es)))(hl:∀f∈(wk C es).map (·.1),f.w=kOf (sortS (wk C es))->HT.lexLt [f.c.2,f.c.1] [e.c.2,e.c.1]=false)(hx:r.x=e.c.1)(hy:r.y=e.c.2)(hr:r.row=(wk C es).filterMap (·.2)):IsRnd (wk C es) r:=by refine⟨hs,0,e,h0,⟨As h0,hw,hl⟩,hx,hy,?_⟩;rw[hr,List.drop_zero,Cv,AH]
noncomputable def blA:List Cell:=[(0,0),(1,0),(0,1),(1,1)]
noncomputable def blB:List Cell:=[(1,0),(0,1),(2,1),(1,2)]
noncomputable def rA:Rnd:=⟨"rim",0,0,[0,2,4,6]⟩
noncomputable def rB:Rnd:=⟨"rim",1,0,[1,3,5,7]⟩
noncomputable def rB2:Rnd:=⟨"hole",1,0,[3,1,7,5]⟩
noncomputable def esA:List Edge:=[⟨(0,0),0⟩,⟨(1,0),0⟩,⟨(1,0),1⟩,⟨(1,1),1⟩,⟨(1,1),2⟩,⟨(0,1),2⟩,⟨(0,1),3⟩,⟨(0,0),3⟩]
noncomputable def esB:List Edge:=[⟨(1,0),0⟩,⟨(1,0),1⟩,⟨(2,1),0⟩,⟨(2,1),1⟩,⟨(2,1),2⟩,⟨(1,2),1⟩,⟨(1,2),2⟩,⟨(1,2),3⟩,⟨(0,1),2⟩,⟨(0,1),3⟩,⟨(0,1),0⟩,⟨(1,0),3⟩]
noncomputable def esB2:List Edge:=[⟨(1,0),2⟩,⟨(0,1),1⟩,⟨(1,2),0⟩,⟨(2,1),3⟩]
theorem zlO:Whole blA [rA]:=by
 refine⟨[esA],⟨rfl,λi es r h1 h2=>?_,by decide +kernel⟩,λe=>?_⟩
 .match i,h1,h2 with
  | 0,h1,h2 =>
   cases h1;cases h2
   exact⟨⟨_,zeh (b:=⟨(0,0),0⟩) rfl (by decide +kernel) (by decide +kernel) (by decide +kernel) (by decide +kernel)⟩,zi1 (e:=⟨(0,0),0⟩) (by decide +kernel) rfl (by decide +kernel) (by decide +kernel) rfl rfl (by decide +kernel)⟩
 .rw[<- zdE];exact⟨λh=>(by decide +kernel:∀e∈[esA].flatten,e∈allE blA) e h,λh=>(by decide +kernel:∀e∈allE blA,e∈[esA].flatten) e h⟩
theorem zlN:Whole blB [rB,rB2]:=by
 refine⟨[esB,esB2],⟨rfl,λi es r h1 h2=>?_,by decide +kernel⟩,λe=>?_⟩
 .match i,h1,h2 with
  | 0,h1,h2 =>
   cases h1;cases h2
   exact⟨⟨_,zeh (b:=⟨(1,0),0⟩) rfl (by decide +kernel) (by decide +kernel) (by decide +kernel) (by decide +kernel)⟩,zi1 (e:=⟨(1,0),0⟩) (by decide +kernel) rfl (by decide +kernel) (by decide +kernel) rfl rfl (by decide +kernel)⟩
  | 1,h1,h2 =>
   cases h1;cases h2
   exact⟨⟨_,zeh (b:=⟨(1,0),2⟩) rfl (by decide +kernel) (by decide +kernel) (by decide +kernel) (by decide +kernel)⟩,zi1 (e:=⟨(1,0),2⟩) (by decide +kernel) rfl (by decide +kernel) (by decide +kernel) rfl rfl (by decide +kernel)⟩
 .rw[<- zdE];exact⟨λh=>(by decide +kernel:∀e∈[esB,esB2].flatten,e∈allE blB) e h,λh=>(by decide +kernel:∀e∈allE blB,e∈[esB,esB2].flatten) e h⟩
theorem zmn:InKey [rB,rB2]:=List.pairwise_cons.mpr ⟨λq hq=>by rw[Ah.mp hq];decide +kernel,List.pairwise_singleton _ _⟩
theorem goodA:zcs (0,0) (shf rA.row) rA.so:=by unfold zcs;decide +kernel
theorem goodB:zcs (1,0) (shf rB.row) rB.so:=by unfold zcs;decide +kernel
theorem zjd{cs:List Cell}(h:∀i<cs.length-1,∀c∈cs[i]?,∀d∈cs[i+1]?,HT.lexLt [c.2,c.1] [d.2,d.1]=true):InOrd cs:=λi c d h1 h2=>by have hi:=(Ac.mp h2).1;exact h i (by lia) c h1 d h2
theorem ordA:InOrd blA:=zjd (by decide +kernel)
theorem ordB:InOrd blB:=zjd (by decide +kernel)
theorem zlF{o:Rnd}(h:IsRnd (WE (0,0) (shf rA.row)) o):o.row=[1,3,5,7]:=by
 have hne:shf rA.row≠[]:=by decide
 have h8:=zhw rA.row;have hnn:(nL (WE (0,0) (shf rA.row)):Int)-nS (WE (0,0) (shf rA.row))=moreL "rim":=by rw[nL_WE hne,nS_WE hne];exact goodA.2.1
 have f:=h.fnd hne h8 goodA.1 (.inl rfl) hnn;obtain⟨m,p,hm,hp,hxy,hk,hrow⟩:=f.ex;have hl:=f.least ⟨(0,0),0⟩ ⟨0,1,by decide,by decide +kernel,by decide +kernel⟩ rfl;have hm4:m<4:=hm;have hs:shf rA.row=[1,3,5,7]:=by decide
 rw[hs]at hxy hrow
 match m,hm4,hxy,hrow with
 | 0,_,_,hrow=>exact hrow
 | 1,_,hxy,_ =>
  have e:((o.x,o.y):Cell)=(1,1):=hxy;injection e with e1 e2;rw[e1,e2]at hl;exact absurd hl (by decide +kernel)
 | 2,_,hxy,_ =>
  have e:((o.x,o.y):Cell)=(0,2):=hxy;injection e with e1 e2;rw[e1,e2]at hl;exact absurd hl (by decide +kernel)
 | 3,_,hxy,_ =>
  have e:((o.x,o.y):Cell)=(-1,1):=hxy;injection e with e1 e2;rw[e1,e2]at hl;exact absurd hl (by decide +kernel)
theorem zlE{o:Rnd}(h:IsRnd (WE (1,0) (shf rB.row)) o):o.row.length=4:=by
 have hne:shf rB.row≠[]:=by decide
 have h8:=zhw rB.row;have hnn:(nL (WE (1,0) (shf rB.row)):Int)-nS (WE (1,0) (shf rB.row))=moreL "rim":=by rw[nL_WE hne,nS_WE hne];exact goodB.2.1
 exact ((h.fnd hne h8 goodB.1 (.inl rfl) hnn).own hne goodB.1).len
noncomputable def zc0(c:Cell):Bool:=(c.1 == 0 ||c.1 == 3) || (c.2 == 0 ||c.2 == 3)
noncomputable def ringC:List Cell:=sqC.filter zc0
theorem zlg:InOrd ringC:=zjd (by decide +kernel)
theorem zlh:ringC.length=12:=by decide +kernel
mutual
inductive DD (H:Hp):V->PyData->Prop where
 |non:DD H .non .none
 |bl (b:Bool):DD H (.bl b) (.bool b)
 |int (i:Int):DD H (.int i) (.int i)
 |str (x:Str):DD H (.str x) (.str x)
 |lst {a:Addr} {xs:List V} {ds:List PyData}:H a=some (.lst xs)->DDs H xs ds->DD H (.ref a) (.list ds)
 |tup {a:Addr} {xs:List V} {ds:List PyData}:H a=some (.tup xs)->DDs H xs ds->DD H (.ref a) (.tuple ds)
inductive DDs (H:Hp):List V->List PyData->Prop where
 |nil:DDs H [] []
 |cons {x:V} {xs:List V} {d:PyData} {ds:List PyData}:DD H x d->DDs H xs ds->DDs H (x::xs) (d::ds)
end
mutual
theorem DD.rd{K:W.Frag}{H:Hp}:∀{v:V}{d:PyData},DD H v d->RD K H v d
 |_,_,.non=>.non
 |_,_,.bl b=>.bl b
 |_,_,.int i=>.int i
 |_,_,.str x=>.str x
 |_,_,.lst e h=>.lst (SqL.of e) h.rds
 |_,_,.tup e h=>.tup (SqT.of e) h.rds
theorem DDs.rds{K:W.Frag}{H:Hp}:∀{vs:List V}{ds:List PyData},DDs H vs ds->RDs K H vs ds
 |_,_,.nil=>.nil
 |_,_,.cons h t=>.cons h.rd t.rds
end
mutual
theorem DD.same{H H':Hp}(s:Same H H'):∀{v:V}{d:PyData},DD H v d->DD H' v d
 |_,_,.non=>.non
 |_,_,.bl b=>.bl b
 |_,_,.int i=>.int i
 |_,_,.str x=>.str x
 |_,_,.lst e h=>.lst (s _ _ e) (h.same s)
 |_,_,.tup e h=>.tup (s _ _ e) (h.same s)
theorem DDs.same{H H':Hp}(s:Same H H'):∀{vs:List V}{ds:List PyData},DDs H vs ds->DDs H' vs ds
 |_,_,.nil=>.nil
 |_,_,.cons h t=>.cons (h.same s) (t.same s)
end
theorem DDs.len{H:Hp}:∀{vs:List V}{ds:List PyData},DDs H vs ds->vs.length=ds.length
 |_,_,.nil=>rfl
 |_,_,.cons _ t=>by simp[t.len]
noncomputable def iv:PyData->Int
 |.int i=>i
 |_=>0
structure Nc (d:PyData) (w k:Nat):Prop where
 ls:d.leavesShort 120=true
 sh:d.showable=true
 cl:d.canLay0=true
 dp:d.depth<=k
 wt:d.weight<=w
structure Ncs (ds:List PyData) (w k:Nat):Prop where
 ls:PyData.leavesShortAll 120 ds=true
 sh:PyData.showableAll ds=true
 cl:Db ds=true
 dp:PyData.depthAll ds<=k
 wt:PyData.weightAll ds<=w
mutual
inductive IsD:Expr->PyData->Prop where
 |non {j:Nat} {p:Pos}:IsD (.Constant .none j p) .none
 |bl {b:Bool} {j:Nat} {p:Pos}:IsD (.Constant (.bool b) j p) (.bool b)
 |int {i:Int} {j:Nat} {p:Pos}:IsD (.Constant (.int i) j p) (.int i)
 |str {x:Str} {j:Nat} {p:Pos}:IsD (.Constant (.str x) j p) (.str x)
 |neg {i:Int} {j:Nat} {p q:Pos}:IsD (.UnaryOp .USub (.Constant (.int i) j p) q) (.int (-i))
 |pow {i m:Int} {j j':Nat} {p p' q:Pos}:CPow i m->IsD (.BinOp (.Constant (.int i) j p) .Pow (.Constant (.int m) j' p') q) (.int (i ^ m.toNat))
 |lst {es:List Expr} {ds:List PyData} {p:Pos}:IsDs es ds->ds.length<=1000->IsD (.List es p) (.list ds)
 |tup {es:List Expr} {ds:List PyData} {j:Nat} {p:Pos}:IsDs es ds->ds.length<=1000->IsD (.Tuple es j p) (.tuple ds)
inductive IsDs:List Expr->List PyData->Prop where
 |nil:IsDs [] []
 |cons {e:Expr} {es:List Expr} {d:PyData} {ds:List PyData}:IsD e d->IsDs es ds->IsDs (e::es) (d::ds)
end
noncomputable def tDat(d:PyData):TE:=λ_ H Q=>∀v H',Same H H'->DD H' v d->Q v H'
noncomputable def tDats(ds:List PyData):TA:=λ_ H Q=>∀vs H',Same H H'->DDs H' vs ds->Q vs H'
theorem PE.imp{X:Cx}{e:Expr}{t t':TE}(h:PE X e t)(k:∀ σ H Q,t' σ H Q->t σ H Q):PE X e t':=λpins s σ H Q I q=>h pins s σ H Q I (k σ H Q q)
theorem PA.imp{X:Cx}{e:List Expr}{t t':TA}(h:PA X e t)(k:∀ σ H Q,t' σ H Q->t σ H Q):PA X e t':=λpos pins s σ H Q I q=>h pos pins s σ H Q I (k σ H Q q)
mutual
theorem zl9{X:Cx}:∀{e:Expr}{d:PyData},IsD e d->PE X e (tDat d)
 |_,_,.non=>PE.imp zbm λσ H Q q=>q _ H (Same.refl _) .non
 |_,_,.bl=>PE.imp pe_bl λσ H Q q=>q _ H (Same.refl _) (.bl _)
 |_,_,.int=>PE.imp zab λσ H Q q=>q _ H (Same.refl _) (.int _)
 |_,_,.str=>PE.imp zdo λσ H Q q=>q _ H (Same.refl _) (.str _)
 |_,_,.neg=>PE.imp (pe_un zeK zab) λσ H Q q=>⟨_,rfl,q _ H (Same.refl _) (.int _)⟩
 |_,_,.pow hc=>PE.imp (pe_op zeT zab zab) λσ H Q q=>⟨_,_,rfl,rfl,hc,q _ H (Same.refl _) (.int _)⟩
 |_,_,.lst h hl=>PE.imp (zaX (zd0 h)) λσ H Q q vs H1 s1 d1=>⟨A7 (zay (by rw[d1.len];exact hl)),λp hp=>q _ _ (s1.trans (Same.up hp)) (.lst zaa (d1.same (Same.up hp)))⟩
 |_,_,.tup h hl=>PE.imp (zav (zd0 h)) λσ H Q q vs H1 s1 d1=>⟨A7 (zay (by rw[d1.len];exact hl)),λp hp=>q _ _ (s1.trans (Same.up hp)) (.tup zaa (d1.same (Same.up hp)))⟩
theorem zd0{X:Cx}:∀{es:List Expr}{ds:List PyData},IsDs es ds->PA X es (tDats ds)
 |_,_,.nil=>PA.imp zad λσ H Q q=>q _ H (Same.refl _) .nil
 |_,_,.cons h t=>PA.imp (zag (zl9 h) (zd0 t) (by cases h <;> rfl)) λσ H Q q v H1 s1 d1 vs H2 s2 d2=>q _ H2 (s1.trans s2) (.cons (d1.same s2) d2)
end
theorem Whole.all{cs:List Cell}{R R0:List Rnd}(h:Whole cs R0)(p:R.Perm R0)(hl:cs.length<=120):∀r∈R,SoOk r/\r.row.length<=480:=λr hr=>by have hm:=p.mem_iff.mp hr;have:=h.short r hm;exact⟨h.so r hm,by lia⟩
theorem zgZ{H0 H H':Hp}{p:Addr}(s:Same H0 H)(b:But H H' p)(hp:H0 p=none):Same H0 H':=λz o h=>b z o (zal h hp) (s z o h)
theorem inV2(n:Int):inV (V.int n) [V.int 0,V.int 3]=(n == 0 ||n == 3):=by unfold inV;rw[C8,C8,List.any_nil,Bool.or_false];show ((0:Int) == n || (3:Int) == n)=_;rw[Bool.beq_comm (a:=(0:Int)),Bool.beq_comm (a:=(3:Int))]
noncomputable def getK1:List Stmt->List Expr
 |[_,.Assign _ (.List [.List es _,_] _) _,_,_]=>es
 |_=>[]
noncomputable def getK2:List Stmt->List Expr
 |[_,.Assign _ (.List [_,.List es _] _) _,_,_]=>es
 |_=>[]
noncomputable def setK(es fs:List Expr):List Stmt->List Stmt
 |[a,.Assign t (.List [.List _ p,.List _ q] r) u,c,d]=>[a,.Assign t (.List [.List es p,.List fs q] r) u,c,d]
 |l=>l
noncomputable def cD(c:Cell):PyData:=.tuple [.int c.1,.int c.2]
theorem DDs.cells{H:Hp}:∀{vs:List V}{cs:List Cell},DDs H vs (cs.map cD)->VR vs cs cR H
 |[],[],_=>VR.nil
 |v::vs,c::cs,h=>by
  cases h with
  |cons h1 h2 =>
   refine VR.cons.mpr ⟨?_,DDs.cells h2⟩
   cases h1 with
   |@tup a xs _ e hd =>
    cases hd with
    |cons g1 g2 =>
     cases g2 with
     |cons g3 g4 =>
      cases g4
      cases g1
      cases g3
      exact⟨a,rfl,e⟩
theorem zic{σ : St}{H:Hp}{Q:VK}{ia:Nat}{a:Addr}{us:List V}{cs:List Cell}(ha : σ[ia]? = some (some (.ref a)))(e:H a=some (.lst us))(v:VR us cs cR H)(ho:InOrd cs)(hl:cs.length <= 120)
  (k:∀q n H',Same H H'->H' q=some (.lst ((Ae n true).map V.bl))->Q (.ref q) H') :
  zf2 (iList K (tCall (zdz K) [] E0 (tCons (tVar ia) tNil))) [none] (gName 0) (λx H Q=>Q true H) (tCall (zdA K) [] E0 (tCons (tVar 0) tNil)) σ H Q:=by
 refine⟨_,ha,a,cs,rfl,LR.of e v,ho,hl,λp H1 rs R R0 hp s1 e1 hv hpm hin hwh=>?_⟩;have hall:=hwh.all hpm hl;have hRl:R.length<=120:=by have:=hwh.few;rw[hpm.length_eq];lia
 refine⟨p,rfl,⟨_,SqL.of e1⟩,λq hq=>?_⟩
 refine zaH (K:=K) (a:=p) (xs:=rs) (λj σ H9=>∃o,σ=[o]/\Same H1 H9/\H9 q=some (.lst ((Ae j true).map V.bl)))
  ⟨_,rfl,Same.up hq,zaa⟩ (λj σ H9 _ ⟨_,_,s9,_⟩=>SqL.of (s9 _ _ e1)) ?_ ?_
 .rintro j u σ H9 hj ⟨o,rfl,s9,e9⟩;obtain⟨r,hr',hx⟩:=hv.at hj;have hjl:=(Ac.mp hr').1;obtain⟨h1,h2⟩:=hall r (As hr');refine gN ?_
  refine⟨_,rfl,u,r,rfl,hx.kt (KT.of s9),h1,h2,λH10 s10=>?_⟩;refine⟨_,s10 _ _ e9,zay (by simp;lia),_,rfl,zar hq (s9.trans s10),?_⟩;rw[zaa,List.replicate_succ',Bc];rfl
 .rintro σ H9 ⟨o,rfl,s9,e9⟩;exact k q _ H9 (s1.trans s9) e9
theorem zkm{e:TE}{r:List V->Hp->VK->Prop}{t u:TS}{D:Ends}{σ:St}{H:Hp}(h:e σ H λx H1=>r [x] H1 λv H2=>∃k,v=.bl k/\(if (!k)=true then t D σ H2 else u D σ H2)):tIfS (tNot (tB (tCB r (tCons e tNil)))) t u D σ H:=h
theorem zjU{D:Ends}{σ : St}{H:Hp}{ia:Nat}{a:Addr}{us:List V}{cs:List Cell}(ha : σ[ia]? = some (some (.ref a)))(e:H a=some (.lst us))(v:VR us cs cR H)(ho:InOrd cs)(hl:cs.length <= 120)(k:∀H', Same H H' -> D.nx σ H') :
  tIfS (tNot (tB (tCB (λxs H_1 Q=>∃(p:Addr) (bs:List Bool),xs=[V.ref p]/\SqL K H_1 p (bs.map V.bl)/\Q (V.bl (bs.all id)) H_1) (tCons (zf2 (iList K (tCall (zdz K) [] E0 (tCons (tVar ia) tNil))) [none] (gName 0) (λx H Q=>Q true H) (tCall (zdA K) [] E0 (tCons (tVar 0) tNil))) tNil)))) (tRet (tC (.bl false))) tNext D σ H:=by
 refine zkm (zic ha e v ho hl λq n H1 s1 e1=>⟨q,Ae n true,rfl,SqL.of e1,?_⟩);rw[show (Ae n true).all id=true by simp];exact⟨_,rfl,k H1 s1⟩
noncomputable def spLaw(K:W.Frag):Sp:=λvs H Q _=>∃(a:Addr) (ns:List Int),vs=[.ref a]/\SqL K H a (ns.map V.int)/\ns.length<=63/\∀H',Q (.bl true) H'
theorem zmd (T:Txt P w K mg) (g__law_cell_at:Fn P w K mg base 1 "_law_cell_at" ["_law_script", "_law_k"] (zhu K)) (g__law_picture:Fn P w K mg base 3 "_law_picture" ["_law_pen", "_law_most"] (zf3 K)) (g_rounds:Fn P w K mg base 7 "rounds" ["picture"] (zdz K))
  (g__law_square:Fn P w K mg base 1 "_law_square" [] zhr) (g_eighth:Fn P w K mg base 6 "eighth" ["one"] (ze6 K)) (g__law_right:Fn P w K mg base 7 "_law_right" ["_law_one"] (zdA K))
  (d:Df K mg "law" s_law ["_law_script"]):FnOk P w K mg base CX0 8 d.f d.fd ["_law_script"] (spLaw K):=by
 refine d.F.ok zeQ (λvs H Q E h=>?_) (λcdv A outer s H vs Q E hr h=>?_)
 .obtain⟨a,ns,rfl,_⟩:=h;rfl
 .obtain⟨a,ns,rfl,hS,hlen,k⟩:=h;have hu64:=hr.units;have nb0:(["_law_x","_law_y"]:List Str).Nodup:=by decide +kernel
  have nb1:(["_law_one"]:List Str).Nodup:=by decide +kernel
  have nb2:(["_law_one"]:List Str).Nodup:=by decide +kernel
  have nb3:(["_law_block"]:List Str).Nodup:=by decide +kernel
  have e:zaA s_law=setK (getK1 (zaA s_law)) (getK2 (zaA s_law)) (zaA s_law):=by rfl
  have hE2:IsDs (getK1 (zaA s_law)) (blA.map cD):=.cons (.tup (.cons .int (.cons .int .nil)) (by decide)) (.cons (.tup (.cons .int (.cons .int .nil)) (by decide)) (.cons (.tup (.cons .int (.cons .int .nil)) (by decide)) (.cons (.tup (.cons .int (.cons .int .nil)) (by decide)) .nil)));have hE1:IsDs (getK2 (zaA s_law)) (blB.map cD):=.cons (.tup (.cons .int (.cons .int .nil)) (by decide)) (.cons (.tup (.cons .int (.cons .int .nil)) (by decide)) (.cons (.tup (.cons .int (.cons .int .nil)) (by decide)) (.cons (.tup (.cons .int (.cons .int .nil)) (by decide)) .nil)));rw[e];generalize getK1 (zaA s_law)=es1 at hE2 ⊢;generalize getK2 (zaA s_law)=es2 at hE1 ⊢;clear e
  refine⟨_,(zac (zbI Bd rfl (zb0 (by rfl) T.nrange (zag (zaw (zjS rfl) (by rfl) T.nmax (by rfl) (pa_C zab (zag (zaw (zjR rfl) (by rfl) T.nmin (by rfl) (pa_C zab (zag (zaw zaK (by rfl) T.nlen (by rfl) (pa_N (pv 0) zad)) zad))) zad))) zad)) (nG 1 zeQ.nd)
   (zac (sE 2 zeQ.nd (pC g__law_picture hr (zag (zaX (zag (pC g__law_cell_at hr (pa_N (pv 0) (pa_N (pv 1) zad))) (pa_C zab zad))) (zag (pe_ix zaE (zaX (pa_C zab (pa_C zab zad))) (zbJ zc7 (by rfl) T.nint (by rfl) (zag (zaT op_gt (pv 1) zab (zan _)) zad)) (λ_ _=>rfl)) zad))))
   (zac (ps_if (zao op_eq (pv 1) zab (zan _))
   (zac (zhD (i:=3) (osc:=zae s_law) (N:=N_law) (N':=["_law_x","_law_y"]) (sel:=[none,none]) bO zeQ.nd (by rfl) (Or.inl rfl) (zaS (zfj g__law_square.ok (hr.mono (by decide)) (by rfl) g__law_square.m g__law_square.kp g__law_square.b .nil pass0)) (λ_ _ _ _ _=>(zcK (K:=K) (n:=2) (by rfl) (zah (nG 0 nb0) (zah (nG 1 nb0) zaG)))) (λ_ _ _ _ _=>zde (pw_or (zao (zeU (K:=K)) (pv 0) (zav (pa_C zab (pa_C zab zad))) rfl) (zf9 (zao (zeU (K:=K)) (pv 1) (zav (pa_C zab (pa_C zab zad))) rfl))).pt) (λ_ _ _ _ _=>(zav (pa_N (pv 0) (pa_N (pv 1) zad)))))
   (zaf (ps_if (zcV (zco (zaw (zei rfl) (by rfl) T.nall (by rfl) (zag (za3 (osc:=zae s_law) (N:=N_law) (N':=["_law_one"]) (sel:=[none]) bO (zaS (pC g_rounds hr (pa_N (pv 3) zad))) (λ_ _ _ _ _=>(nG 0 nb1)) (λ_ _ _ _ _=>zbq) (λ_ _ _ _ _=>(pC g__law_right hr (pa_N (pv 0) zad)))) zad))))
   (zaf (zaj pe_bl))
   zas)))
   zas)
   (zaf (ps_if (zcV (zco (zaw (zei rfl) (by rfl) T.nall (by rfl) (zag (za3 (osc:=zae s_law) (N:=N_law) (N':=["_law_one"]) (sel:=[none]) bO (zaS (pC g_rounds hr (pa_N (pv 2) zad))) (λ_ _ _ _ _=>(nG 0 nb2)) (λ_ _ _ _ _=>zbq) (λ_ _ _ _ _=>(pC g__law_right hr (pa_N (pv 0) zad)))) zad))))
   (zaf (zaj pe_bl))
   zas)))))
   (zac (sE 4 zeQ.nd (zaX (zag (zaX (zd0 hE2)) (zag (zaX (zd0 hE1)) zad))))
   (zac (zhD (i:=5) (osc:=zae s_law) (N:=N_law) (N':=["_law_block"]) (sel:=[none]) bO zeQ.nd (by rfl) (Or.inl rfl) (zaS (pv 4)) (λ_ _ _ _ _=>(nG 0 nb3)) (λ_ _ _ _ _=>zbq) (λ_ _ _ _ _=>(pC g_eighth hr (zag (pe_ix (zkl (K:=K)) (pC g_rounds hr (pa_N (pv 0) zad)) zab (λ_ _=>rfl)) zad))))
   (zaf (zaj (zdZ (zaT zdf (pe_ix zaE (pv 5) zab (λ_ _=>rfl)) zbm (zan _)) (zdZ (zaT (zgf hu64) (pe_ix zat (pe_ix zaE (pv 5) zab (λ_ _=>rfl)) zab (λ_ _=>rfl)) (zav (pa_C zab (pa_C zab (pa_C zab (pa_C zab zad))))) (zan _)) (zdZ (zaT zdf (pe_ix zaE (pv 5) zab (λ_ _=>rfl)) zbm (zan _)) (zeS (zaT op_eq (zaw zaK (by rfl) T.nlen (by rfl) (zag (pe_ix zat (pe_ix zaE (pv 5) zab (λ_ _=>rfl)) zab (λ_ _=>rfl)) zad)) zab (zan _))))))))))),?_⟩
  have hσ:L2.start N_law [.ref a]=[some (.ref a),none,none,none,none,none]:=rfl;rw[hσ];refine⟨_,rfl,a,_,rfl,.inl hS,_,_,rfl,_,_,rfl,_,rfl,?_,?_,?_⟩
  .split <;> lia
  .split
   .split <;> lia
   .decide
  refine zbN (lo:=0) (λi σ H3=>∃o1 o2 o3,σ=[some (.ref a),o1,o2,o3,none,none]/\Same H H3) ⟨_,_,_,rfl,Same.refl _⟩ ?_ ?_
  .rintro i σ H3 hi ⟨o1,o2,o3,rfl,s3⟩;simp only[zau,Ax,Ay];refine⟨_,rfl,_,rfl,a,ns,i,(by rw[show ((0:Int)+(i:Int))=(i:Int) by lia];rfl),s3.seq hS,λc=>⟨two,λp hp=>?_⟩⟩;have hp0:H p=none:=s3.free hp;have sp:Same H (upd H3 p (.lst [.int c,.int 0])):=s3.trans (Same.up hp);have pen0:HasB (upd H3 p (.lst [.int c,.int 0])) p 1000:=⟨c,0,zaa,by decide,by decide⟩;generalize upd H3 p (.lst [.int c,.int 0])=H4 at sp pen0 ⊢;refine⟨two,λl hl=>?_⟩
   obtain⟨v,hv,m,rfl,hm1,hm⟩:∃v,atI [V.int 120,V.int 30] (if decide ((0:Int)<0+(i:Int))=true then 1 else 0)=some v/\∃m:Nat,v=.int m/\1<=m/\m<=120:=by
    by_cases hz:decide ((0:Int)<0+(i:Int))=true
    .rw[if_pos hz];exact⟨_,rfl,30,rfl,by decide,by decide⟩
    .rw[if_neg hz];exact⟨_,rfl,120,rfl,by decide,by decide⟩
   refine⟨_,rfl,_,_,rfl,rfl,.inr ⟨_,rfl,?_⟩⟩;refine⟨l,_,_,_,rfl,rfl,SqL.of zaa,hv,p,400,m,rfl,(pen0.same (Same.up hl)).le (by lia),hm1,by lia,λap cs H5 hap b5 p5 ⟨pcs,e5,v5⟩ hord _ hcl _=>?_⟩;have s5:Same H H5:=zgZ (sp.trans (Same.up hl)) b5 hp0;simp only[zau,Ax,Ay];have hfin:∀(o:Option V) (H6:Hp),Same H5 H6->∃o1 o2 o3,[some (.ref a),some (.int (0+(i:Int))),some (.ref ap),o,none,none]=[some (V.ref a),o1,o2,o3,none,none]/\Same H H6:=λo H6 s6=>⟨_,_,_,rfl,s5.trans s6⟩
   have v56:∀H6,Same H5 H6->VR pcs cs cR H6:=λH6 s6=>v5.mono λx v h=>h.kt (KT.of s6)
   have hcl':cs.length<=120:=by lia
   .refine⟨_,rfl,rfl,_,rfl,?_⟩
    by_cases h0:decide (V.int (0+(i:Int))=V.int 0)=true
    rotate_left
    .refine iteN (by simpa using h0) ?_
     refine zd7 (zjU (K:=K) (σ:=[some (.ref a),some (.int (0+(i:Int))),some (.ref ap),o3,none,none]) (ia:=2) rfl e5 v5 hord hcl' λH10 s10=>?_);exact hfin _ H10 s10
    .refine iteY h0 ?_
     refine⟨rfl,λq H6 us hq s6 e6 v6=>⟨q,rfl,⟨_,SqL.of e6⟩,λq2 hq2=>?_⟩⟩
     refine zaH (K:=K) (a:=q) (xs:=us) (λj σ H9=>∃ox oy ws,σ=[ox,oy]/\Same H6 H9/\H9 q2=some (.lst ws)/\VR ws ((sqC.take j).filter zc0) cR H9)
      ⟨_,_,[],rfl,Same.up hq2,zaa,VR.nil⟩ (λj σ H9 _ ⟨_,_,_,_,s9,_⟩=>SqL.of (s9 _ _ e6)) ?_ ?_
     .rintro j u σ H9 hj ⟨ox,oy,ws,rfl,s9,e9,v9⟩;obtain⟨g,hg,bb,rfl,qb⟩:=v6.at hj;refine⟨bb,_,rfl,SqT.of (s9 _ _ qb),rfl,_,_,rfl,_,_,rfl,rfl,?_⟩;refine⟨_,rfl,two,λt1 ht1=>?_⟩;have s10:=Same.up (o:=.tup [.int 0,.int 3]) ht1;have e10:upd H9 t1 (.tup [.int 0,.int 3]) t1=some (.tup [.int 0,.int 3]):=zaa;generalize upd H9 t1 (.tup [.int 0,.int 3])=H10 at s10 e10 ⊢
      have hws:ws.length<=16:=by
       rw[v9.1];have h1:=Cz zc0 (sqC.take j);rw[AX]at h1;have h2:sqC.length=16:=by decide
       lia
      have put:∀H12,Same H9 H12->zc0 g=true->zcf q2 (tTup (tCons (tVar 0) (tCons (tVar 1) tNil))) { nx:=λσ H9=>∃ox oy ws,σ=[ox,oy]/\Same H6 H9/\H9 q2=some (HO.lst ws)/\VR ws (List.filter zc0 (List.take (j+1) sqC)) cR H9,rt:=λ_ _=>False } [some (.int g.1),some (.int g.2)] H12:=λH12 s12 hin=>by refine⟨_,rfl,_,rfl,two,λt3 ht3=>?_⟩;have s13:=Same.up (o:=.tup [.int g.1,.int g.2]) ht3;have e13:upd H12 t3 (.tup [.int g.1,.int g.2]) t3=some (.tup (cellT g)):=zaa;generalize upd H12 t3 (.tup [.int g.1,.int g.2])=H13 at s13 e13 ⊢;have s93:=s12.trans s13;have e9':=s93 _ _ e9;refine⟨ws,e9',zay (by lia),_,_,_,rfl,zar hq2 (s9.trans s93),zaa,?_⟩;rw[zaC hg,zcc,if_pos hin];exact (v9.mono λx v h=>h.kt (KT.of s93)).snoc (λx v h=>h.kt (KT.lst e9')) ⟨t3,rfl,KT.lst e9' _ _ e13⟩
      refine⟨t1,_,rfl,.inr (SqT.of e10),rfl,rfl,_,rfl,?_⟩
      by_cases h1:inV (V.int g.1) [V.int 0,V.int 3]=true
      .refine iteY h1 ?_
       refine iteT ?_
       exact put H10 s10 (by unfold zc0;rw[<- inV2,h1];rfl)
      refine iteN (by simpa using h1) ?_
      refine⟨_,rfl,two,λt2 ht2=>?_⟩;have s11:=Same.up (o:=.tup [.int 0,.int 3]) ht2;have e11:upd H10 t2 (.tup [.int 0,.int 3]) t2=some (.tup [.int 0,.int 3]):=zaa;generalize upd H10 t2 (.tup [.int 0,.int 3])=H11 at s11 e11 ⊢;refine⟨t2,_,rfl,.inr (SqT.of e11),rfl,rfl,_,rfl,?_⟩
      by_cases h2:inV (V.int g.2) [V.int 0,V.int 3]=true
      .refine iteY h2 ?_
       exact put H11 (s10.trans s11) (by unfold zc0;rw[<- inV2 g.2,h2,Bool.or_true])
      refine iteN (by simpa using h2) ?_
      refine⟨_,_,ws,rfl,s9.trans (s10.trans s11),(s10.trans s11) _ _ e9,?_⟩;have hin:zc0 g=false:=by unfold zc0;rw[<- inV2,<- inV2,Bool.eq_false_iff.mpr h1,Bool.eq_false_iff.mpr h2];rfl
      rw[zaC hg,zcc,if_neg (by rw[hin];decide),AH];exact v9.mono λx v h=>h.kt (KT.of (s10.trans s11))
     .rintro σ H9 ⟨ox,oy,ws,rfl,s9,e9,v9⟩;rw[v6.1,AL]at v9;refine zjU (K:=K) (σ:=[some (.ref a),some (.int (0+(i:Int))),some (.ref ap),some (.ref q2),none,none]) (ia:=3) rfl e9 v9 zlg (Bf (Nat.le_of_eq zlh) (by decide)) λH10 s10=>?_
      have s10':=s6.trans (s9.trans s10);refine zjU (K:=K) (σ:=[some (.ref a),some (.int (0+(i:Int))),some (.ref ap),some (.ref q2),none,none]) (ia:=2) rfl (s10' _ _ e5) (v56 _ s10') hord hcl' λH11 s11=>?_
      exact hfin _ H11 (s10'.trans s11)
  .rintro σ H3 ⟨o1,o2,o3,rfl,s3⟩;refine λvs1 H4 s4 d4=>⟨A7 (zay (by rw[d4.len];decide)),λl1 hl1=>?_⟩
   have s5:=Same.up (o:=.lst vs1) hl1;have e5:upd H4 l1 (.lst vs1) l1=some (.lst vs1):=zaa;have v5:VR vs1 blA cR (upd H4 l1 (.lst vs1)):=DDs.cells (d4.same s5);generalize upd H4 l1 (.lst vs1)=H5 at s5 e5 v5 ⊢;refine λvs2 H6 s6 d6=>⟨A7 (zay (by rw[d6.len];decide)),λl2 hl2=>?_⟩
   have s7:=Same.up (o:=.lst vs2) hl2;have e7:upd H6 l2 (.lst vs2) l2=some (.lst vs2):=zaa;have v7:VR vs2 blB cR (upd H6 l2 (.lst vs2)):=DDs.cells (d6.same s7);generalize upd H6 l2 (.lst vs2)=H7 at s7 e7 v7 ⊢;refine⟨two,λl3 hl3=>?_⟩;have s8:=Same.up (o:=.lst [.ref l1,.ref l2]) hl3;have e8:upd H7 l3 (.lst [.ref l1,.ref l2]) l3=some (.lst [.ref l1,.ref l2]):=zaa;generalize upd H7 l3 (.lst [.ref l1,.ref l2])=H8 at s8 e8 ⊢;have f5:=(s6.trans (s7.trans s8)) _ _ e5;have w5:VR vs1 blA cR H8:=v5.mono λx v h=>h.kt (KT.of (s6.trans (s7.trans s8)))
   have f7:=s8 _ _ e7;have w7:VR vs2 blB cR H8:=v7.mono λx v h=>h.kt (KT.of s8)
   refine⟨_,rfl,l3,rfl,⟨_,SqL.of e8⟩,λq hq=>?_⟩
   refine zaH (K:=K) (a:=l3) (xs:=[.ref l1,.ref l2]) (λj σ H9=>∃o us,σ=[o]/\Same H8 H9/\H9 q=some (.lst us)/\us.length=j/\(∀u,us[0]?=some u->∃o:Rnd,rR o u H9/\o.row=[1,3,5,7])/\(∀u,us[1]?=some u->∃o:Rnd,rR o u H9/\o.row.length=4))
    ⟨_,[],rfl,Same.up hq,zaa,rfl,λu h=>by simp at h,λu h=>by simp at h⟩ (λj σ H9 _ ⟨_,_,_,s9,_⟩=>SqL.of (s9 _ _ e8)) ?_ ?_
   .rintro j x σ H9 hj ⟨o,us,rfl,s9,e9,hul,ha1,hb1⟩;refine gN ?_
    match j,hj with
    | 0,hj =>
     cases hj
     refine⟨_,rfl,l1,blA,rfl,LR.of (s9 _ _ f5) (w5.mono λx v h=>h.kt (KT.of s9)),ordA,by decide,λp H10 rs R R0 hp s10 e10 hv hpm hin hwh=>?_⟩;have hR:R=[rA]:=hwh.one hpm (List.Perm.refl _) hin (List.pairwise_singleton _ _) zlO;subst hR;obtain⟨u0,hu0⟩:∃u,rs[0]?=some u:=⟨_,Aa (by rw[hv.1];decide)⟩;obtain⟨r0,hr0,hx0⟩:=hv.at hu0
     cases hr0
     refine⟨p,_,_,_,rfl,rfl,SqL.of e10,zai (j:=0) hu0,u0,rA,rfl,hx0,.inl rfl,by decide,λH11 hno s11=>?_,λu H11 o2 _ _ s11 ho hio=>?_⟩
     .exact absurd hno (λz=>z.elim (by decide) (λz=>z goodA))
     .have s911:=s10.trans s11;have e11:=s911 _ _ e9;have hu0':us=[]:=DI.mp hul;subst hu0';refine⟨[],e11,by decide,_,[u],rfl,zar hq (s9.trans s911),zaa,rfl,λu' h=>?_,λu' h=>by simp at h⟩
      cases h
      exact⟨o2,ho.kt (KT.lst e11),zlF hio⟩
    | 1,hj =>
     cases hj
     refine⟨_,rfl,l2,blB,rfl,LR.of (s9 _ _ f7) (w7.mono λx v h=>h.kt (KT.of s9)),ordB,by decide,λp H10 rs R R0 hp s10 e10 hv hpm hin hwh=>?_⟩;have hR:R=[rB,rB2]:=hwh.one hpm (List.Perm.refl _) hin zmn zlN;subst hR;obtain⟨u0,hu0⟩:∃u,rs[0]?=some u:=⟨_,Aa (by rw[hv.1];decide)⟩;obtain⟨r0,hr0,hx0⟩:=hv.at hu0
     cases hr0
     refine⟨p,_,_,_,rfl,rfl,SqL.of e10,zai (j:=0) hu0,u0,rB,rfl,hx0,.inl rfl,by decide,λH11 hno s11=>?_,λu H11 o2 _ _ s11 ho hio=>?_⟩
     .exact absurd hno (λz=>z.elim (by decide) (λz=>z goodB))
     .have s911:=s10.trans s11;have e11:=s911 _ _ e9;obtain⟨ua,rfl⟩:∃ua,us=[ua]:=List.length_eq_one_iff.mp hul;refine⟨[ua],e11,(by show 1<sizeLine;decide),_,[ua,u],rfl,zar hq (s9.trans s911),zaa,rfl,λu' h=>?_,λu' h=>?_⟩
      .cases h
       obtain⟨o3,h1,h2⟩:=ha1 ua rfl;exact⟨o3,(h1.kt (KT.of s911)).kt (KT.lst e11),h2⟩
      .cases h
       exact⟨o2,ho.kt (KT.lst e11),zlE hio⟩
    |j+2,hj=>simp at hj
   .rintro σ H9 ⟨o,us,rfl,s9,e9,hul,ha1,hb1⟩
    obtain⟨ua,ub,rfl⟩:∃ua ub,us=[ua,ub]:=by
     match us,hul with
     |[ua,ub],_=>exact⟨ua,ub,rfl⟩
    obtain⟨oa,ra,rowa⟩:=ha1 ua rfl;obtain⟨ob,rb,rowb⟩:=hb1 ub rfl;obtain⟨A,A2,rfl,qa1,qa2⟩:=id ra;obtain⟨B,B2,rfl,qb1,qb2⟩:=id rb;refine⟨_,rfl,q,_,_,_,rfl,rfl,SqL.of e9,zai (j:=0) rfl,rfl,_,rfl,iteT ?_⟩;refine⟨_,rfl,q,_,_,_,rfl,rfl,SqL.of e9,zai (j:=0) rfl,A,_,_,_,rfl,rfl,SqT.of qa1,zai (j:=3) rfl,four,λt4 ht4=>?_⟩;have s10:=Same.up (o:=.tup [.int 1,.int 3,.int 5,.int 7]) ht4;have e10:upd H9 t4 (.tup [.int 1,.int 3,.int 5,.int 7]) t4=some (.tup (([1,3,5,7]:List Int).map V.int)):=zaa;generalize upd H9 t4 (.tup [.int 1,.int 3,.int 5,.int 7])=H10 at s10 e10 ⊢
    have qa3:H10 A2=some (.tup (([1,3,5,7]:List Int).map V.int)):=by have:=s10 _ _ qa2;rw[rowa]at this;exact this
    refine⟨tI [1,3,5,7],tI [1,3,5,7],.tup (SqT.of qa3) (RDs.ints _),.tup (SqT.of e10) (RDs.ints _),zaD _,zaD _,_,rfl,?_⟩;rw[zcC];refine iteY (decide_eq_true rfl) ?_
    have e9':=s10 _ _ e9;refine⟨_,rfl,q,_,_,_,rfl,rfl,SqL.of e9',zai (j:=1) rfl,rfl,_,rfl,iteT ?_⟩;have hlb:(rowV ob.row).length=4:=by unfold rowV;rw[Am];exact rowb
    refine⟨_,rfl,q,_,_,_,rfl,rfl,SqL.of e9',zai (j:=1) rfl,B,_,_,_,rfl,rfl,SqT.of (s10 _ _ qb1),zai (j:=3) rfl,B2,_,rfl,.inr (SqT.of (s10 _ _ qb2)),?_⟩;rw[hlb];exact⟨rfl,k H10⟩
end
theorem all_mk {l:W.OpenLaw}{w:A4}{K:W.Frag}{h:Heap}{mg:Str -> Option Value}{fa:Addr}(X:K.In h) (G:h.Ns AN mg) (hfa:mg "law" = some (.ref fa)){fx43:Addr}{od43 an43:Option Addr}{sl43:Array (Option Value)}{oc43 kV43 dc43 pm43 ct43 cd43:Value}
  (h0:DA K "cell_order" zcn)
  (h1:DA K "ask_picture" zb8)
  (h2:DA K "gone" ziT)
  (h3:DA K "cell_table" zbO)
  (h4:DA K "gap_beside" zcl)
  (h5:DA K "all_edges" zbG)
  (h6:DA K "straight_step" zbF)
  (h7:DA K "slant_step" zck)
  (h8:DA K "step_behind" zb3)
  (h9:DA K "is_slant" zda)
  (h10:DA K "edge_behind" zb6)
  (h11:DA K "walk_from" zcF)
  (h12:DA K "lefts_and_slants" zaO)
  (h13:DA K "lefts_less_slants" zbd)
  (h14:DA K "sort_of" zdS)
  (h15:DA K "begin_of" zcu)
  (h16:DA K "round_of" zbB)
  (h17:DA K "round_order" zb4)
  (h18:DA K "rounds_along" zbR)
  (h19:DA K "rounds" zfe)
  (h20:DA K "way_for" zdQ)
  (h21:DA K "deeds_along" zb7)
  (h22:DA K "walk_by" zdR)
  (h23:DA K "walk_along" zcj)
  (h24:DA K "seen_between" zbQ)
  (h25:DA K "gainsaid_at" zb5)
  (h26:DA K "comes_back" zcm)
  (h27:DA K "is_closed" zcG)
  (h28:DA K "eighth" zdC)
  (h29:DA K "_law_cell_at" zbT)
  (h30:DA K "_law_take" zcI)
  (h31:DA K "_law_far" zdb)
  (h32:DA K "_law_is_there" zbH)
  (h33:DA K "_law_picture" zbS)
  (h34:DA K "_law_is_round" zbh)
  (h35:DA K "_law_eight" zbv)
  (h36:DA K "_law_square" zby)
  (h37:DA K "_law_beside" zca)
  (h38:DA K "_law_walk" zcH)
  (h39:DA K "_law_is_good" zbs)
  (h40:DA K "_law_begins" zbz)
  (h41:DA K "_law_shifts" zb9)
  (h42:DA K "_law_right" zbP)
  (a43:Cw K AN "law" = some (some (.ref fx43))) (l43:K.lookup fx43=some ⟨oc43,od43,.func (CV "law" "law" (za2 s_law) (zaA s_law) (zae s_law) .none kV43 dc43 pm43 an43 cd43 ct43),sl43⟩) (c43:W.codeIn K cd43 "law" = true) (k43:Dd K (.ref fx43)=true)
  {M m0 m1 m2 m3 m4 m5 m6 m7:Addr}{odM:Option Addr}{nM:Nat}{slM:Array (Option Value)}
  (aM:Cw K AN "MOVES" = some (some (.ref M))) (lM:K.lookup M=some ⟨.type "tuple",odM,.seq #[.ref m0,.ref m1,.ref m2,.ref m3,.ref m4,.ref m5,.ref m6,.ref m7] nM,slM⟩)
  {odm0:Option Addr}{nm0:Nat}{slm0:Array (Option Value)}{tm0 um0:Tok} (x0:K.lookup m0=some ⟨.type "tuple",odm0,.seq #[.int (1) tm0,.int (0) um0] nm0,slm0⟩)
  {odm1:Option Addr}{nm1:Nat}{slm1:Array (Option Value)}{tm1 um1:Tok} (x1:K.lookup m1=some ⟨.type "tuple",odm1,.seq #[.int (1) tm1,.int (1) um1] nm1,slm1⟩)
  {odm2:Option Addr}{nm2:Nat}{slm2:Array (Option Value)}{tm2 um2:Tok} (x2:K.lookup m2=some ⟨.type "tuple",odm2,.seq #[.int (0) tm2,.int (1) um2] nm2,slm2⟩)
  {odm3:Option Addr}{nm3:Nat}{slm3:Array (Option Value)}{tm3 um3:Tok} (x3:K.lookup m3=some ⟨.type "tuple",odm3,.seq #[.int (-1) tm3,.int (1) um3] nm3,slm3⟩)
  {odm4:Option Addr}{nm4:Nat}{slm4:Array (Option Value)}{tm4 um4:Tok} (x4:K.lookup m4=some ⟨.type "tuple",odm4,.seq #[.int (-1) tm4,.int (0) um4] nm4,slm4⟩)
  {odm5:Option Addr}{nm5:Nat}{slm5:Array (Option Value)}{tm5 um5:Tok} (x5:K.lookup m5=some ⟨.type "tuple",odm5,.seq #[.int (-1) tm5,.int (-1) um5] nm5,slm5⟩)
  {odm6:Option Addr}{nm6:Nat}{slm6:Array (Option Value)}{tm6 um6:Tok} (x6:K.lookup m6=some ⟨.type "tuple",odm6,.seq #[.int (0) tm6,.int (-1) um6] nm6,slm6⟩)
  {odm7:Option Addr}{nm7:Nat}{slm7:Array (Option Value)}{tm7 um7:Tok} (x7:K.lookup m7=some ⟨.type "tuple",odm7,.seq #[.int (1) tm7,.int (-1) um7] nm7,slm7⟩)
  {B:Addr}{t1 t2 t3 t4:Tok}{nB:Nat} (aB:Cw K AN "BEGIN_WAYS" = some (some (.ref B))) (lB:K.lookup B=some ⟨.type "dict",none,.dict #[⟨BN w.params "rim",.str "rim" t1,.int 0 t2⟩,⟨BN w.params "hole",.str "hole" t3,.int 2 t4⟩] nB,#[]⟩)
  {B2:Addr}{u1 u2 u3 u4:Tok}{nB2:Nat} (aB2:Cw K AN "MORE_LEFTS" = some (some (.ref B2))) (lB2:K.lookup B2=some ⟨.type "dict",none,.dict #[⟨BN w.params "rim",.str "rim" u1,.int 4 u2⟩,⟨BN w.params "hole",.str "hole" u3,.int (-4) u4⟩] nB2,#[]⟩)
  (z_abs:Cw K AN "abs" = some none)
  (z_max:Cw K AN "max" = some none)
  (z_any:Cw K AN "any" = some none)
  (z_range:Cw K AN "range" = some none)
  (z_len:Cw K AN "len" = some none)
  (z_min:Cw K AN "min" = some none)
  (z_sorted:Cw K AN "sorted" = some none)
  (z_tuple:Cw K AN "tuple" = some none)
  (z_int:Cw K AN "int" = some none)
  (z_bool:Cw K AN "bool" = some none)
  (z_str:Cw K AN "str" = some none)
  (z_all:Cw K AN "all" = some none)
  (z_isinstance:Cw K AN "isinstance" = some none)
  (z_list:Cw K AN "list" = some none)
  (z_sum:Cw K AN "sum" = some none)
  (z_enumerate:Cw K AN "enumerate" = some none)
  (z_zip:Cw K AN "zip" = some none) :
  ∃fd:Bv,(∀(s:Ab) (v:Value),BindsTo s fd ⟨[v],[]⟩ [("_law_script",v)])/\∀base:Heap,K.In base->base.Ns AN mg->FnOk l.prog w K mg base CX0 8 fa fd ["_law_script"] (spLaw K):=by
 have e:=hfa.symm.trans (W.mg_of X G a43)
 cases e
 have moves:∃M,mg "MOVES" = some (.ref M)/\∀H,∃ms:List Addr,SqT K H M (ms.map V.ref)/\ms.length=8/\∀(i:Nat) a,ms[i]?=some a->SqT K H a [.int (mv i).1,.int (mv i).2]:=by
  refine⟨M,W.mg_of X G aM,λH=>⟨[m0,m1,m2,m3,m4,m5,m6,m7],.inr ⟨_,_,_,lM,rfl,rfl,(by show 8<=sizeLine;decide),.cons rfl (.cons rfl (.cons rfl (.cons rfl (.cons rfl (.cons rfl (.cons rfl (.cons rfl .nil)))))))⟩,rfl,λi a e=>?_⟩⟩
  match i,e with
  | 0,e=>cases e;exact .inr ⟨_,_,_,x0,rfl,rfl,(by show 2<=sizeLine;decide),.cons ⟨_,rfl⟩ (.cons ⟨_,rfl⟩ .nil)⟩
  | 1,e=>cases e;exact .inr ⟨_,_,_,x1,rfl,rfl,(by show 2<=sizeLine;decide),.cons ⟨_,rfl⟩ (.cons ⟨_,rfl⟩ .nil)⟩
  | 2,e=>cases e;exact .inr ⟨_,_,_,x2,rfl,rfl,(by show 2<=sizeLine;decide),.cons ⟨_,rfl⟩ (.cons ⟨_,rfl⟩ .nil)⟩
  | 3,e=>cases e;exact .inr ⟨_,_,_,x3,rfl,rfl,(by show 2<=sizeLine;decide),.cons ⟨_,rfl⟩ (.cons ⟨_,rfl⟩ .nil)⟩
  | 4,e=>cases e;exact .inr ⟨_,_,_,x4,rfl,rfl,(by show 2<=sizeLine;decide),.cons ⟨_,rfl⟩ (.cons ⟨_,rfl⟩ .nil)⟩
  | 5,e=>cases e;exact .inr ⟨_,_,_,x5,rfl,rfl,(by show 2<=sizeLine;decide),.cons ⟨_,rfl⟩ (.cons ⟨_,rfl⟩ .nil)⟩
  | 6,e=>cases e;exact .inr ⟨_,_,_,x6,rfl,rfl,(by show 2<=sizeLine;decide),.cons ⟨_,rfl⟩ (.cons ⟨_,rfl⟩ .nil)⟩
  | 7,e=>cases e;exact .inr ⟨_,_,_,x7,rfl,rfl,(by show 2<=sizeLine;decide),.cons ⟨_,rfl⟩ (.cons ⟨_,rfl⟩ .nil)⟩
  |i+8,e=>exact absurd (Ac.mp e).1 (by simp)
 have ways:Ways l.prog w K mg:=⟨⟨B,t1,t2,t3,t4,nB,W.mg_of X G aB,lB⟩⟩;have T:Txt l.prog w K mg:={ moves:=moves,ways:=ways,more:=⟨⟨B2,u1,u2,u3,u4,nB2,W.mg_of X G aB2,lB2⟩⟩,nabs:=Bx X G z_abs,nmax:=Bx X G z_max,nany:=Bx X G z_any,nrange:=Bx X G z_range,nlen:=Bx X G z_len,nmin:=Bx X G z_min,nsorted:=Bx X G z_sorted,ntuple:=Bx X G z_tuple,nint:=Bx X G z_int,nbool:=Bx X G z_bool,nstr:=Bx X G z_str,nall:=Bx X G z_all,nisinstance:=Bx X G z_isinstance,nlist:=Bx X G z_list,nsum:=Bx X G z_sum,nenumerate:=Bx X G z_enumerate,nzip:=Bx X G z_zip };obtain⟨d'0⟩:=h0.d1 X G (p0:="cell");obtain⟨d'1⟩:=h1.d1 X G (p0:="picture");obtain⟨d'2⟩:=h2.d3 X G (p0:="x") (p1:="y") (p2:="step");obtain⟨d'3⟩:=h3.d1 X G (p0:="picture");obtain⟨d'4⟩:=h4.d1 X G (p0:="edge");obtain⟨d'5⟩:=h5.d1 X G (p0:="picture");obtain⟨d'6⟩:=h6.d1 X G (p0:="way");obtain⟨d'7⟩:=h7.d1 X G (p0:="way");obtain⟨d'8⟩:=h8.d2 X G (p0:="table") (p1:="edge");obtain⟨d'9⟩:=h9.d1 X G (p0:="step");obtain⟨d'a⟩:=h10.d2 X G (p0:="edge") (p1:="step");obtain⟨d'b⟩:=h11.d2 X G (p0:="table") (p1:="begin");obtain⟨d'c⟩:=h12.d1 X G (p0:="walk");obtain⟨d'd⟩:=h13.d1 X G (p0:="walk");obtain⟨d'e⟩:=h14.d1 X G (p0:="walk");obtain⟨d'f⟩:=h15.d2 X G (p0:="walk") (p1:="sort");obtain⟨d'10⟩:=h16.d1 X G (p0:="walk");obtain⟨d'11⟩:=h17.d1 X G (p0:="one");obtain⟨d'12⟩:=h18.d2 X G (p0:="table") (p1:="edges");obtain⟨d'13⟩:=h19.d1 X G (p0:="picture");obtain⟨d'14⟩:=h20.d1 X G (p0:="step");obtain⟨d'15⟩:=h21.d2 X G (p0:="begin_way") (p1:="row");obtain⟨d'16⟩:=h22.d2 X G (p0:="begin") (p1:="deeds");obtain⟨d'17⟩:=h23.d2 X G (p0:="begin") (p1:="row");obtain⟨d'18⟩:=h24.d2 X G (p0:="edge") (p1:="step");obtain⟨d'19⟩:=h25.d1 X G (p0:="walk");obtain⟨d'1a⟩:=h26.d1 X G (p0:="walk");obtain⟨d'1b⟩:=h27.d2 X G (p0:="walk") (p1:="sort");obtain⟨d'1c⟩:=h28.d1 X G (p0:="one");obtain⟨d'1d⟩:=h29.d2 X G (p0:="_law_script") (p1:="_law_k");obtain⟨d'1e⟩:=h30.d2 X G (p0:="_law_pen") (p1:="_law_base");obtain⟨d'1f⟩:=h31.d1 X G (p0:="_law_pen");obtain⟨d'20⟩:=h32.d6 X G (p0:="_law_pen") (p1:="_law_way") (p2:="_law_x") (p3:="_law_y") (p4:="_law_wide") (p5:="_law_high");obtain⟨d'21⟩:=h33.d2 X G (p0:="_law_pen") (p1:="_law_most");obtain⟨d'22⟩:=h34.d1 X G (p0:="_law_found");obtain⟨d'23⟩:=h35.d0 X G;obtain⟨d'24⟩:=h36.d0 X G;obtain⟨d'25⟩:=h37.d3 X G (p0:="_law_x") (p1:="_law_y") (p2:="_law_step");obtain⟨d'26⟩:=h38.d3 X G (p0:="_law_x") (p1:="_law_y") (p2:="_law_row");obtain⟨d'27⟩:=h39.d2 X G (p0:="_law_one") (p1:="_law_row");obtain⟨d'28⟩:=h40.d1 X G (p0:="_law_one");obtain⟨d'29⟩:=h41.d3 X G (p0:="_law_one") (p1:="_law_other") (p2:="_law_row");obtain⟨d'2a⟩:=h42.d1 X G (p0:="_law_one");have F43:=zcq (st:=s_law) l43 c43 k43;have b43:=F43.b1 (p0:="_law_script");refine⟨CV "law" "law" (za2 s_law) (zaA s_law) (zae s_law) .none kV43 dc43 pm43 an43 cd43 ct43,λs v=>.of_eq rfl,λbase _ _=>?_⟩;have fn:∀{k:Nat}{x:Str}{s:Stmt}{ps:List Str}{sp:Sp} (d:Df K mg x s ps),FnOk l.prog w K mg base CX0 k d.f d.fd ps sp->Fn l.prog w K mg base k x ps sp:=λd h=>d.fn h
 have g'2b:=fn d'0 (zfu d'0);have g'2c:=fn d'2 (zlv T d'2);have g'2d:=fn d'6 (zdu d'6);have g'2e:=fn d'7 (zfm d'7);have g'2f:=fn d'9 (zg4 d'9);have g'30:=fn d'4 (zfs g'2c d'4);have g'31:=fn d'1 (zeA T g'2b d'1);have g'32:=fn d'3 (zft d'3);have g'33:=fn d'8 (zes g'2c g'2e g'2d d'8);have g'34:=fn d'a (zex g'2c g'2f d'a);have g'35:=fn d'5 (zgj T g'32 g'30 d'5);have g'36:=fn d'b (zgg g'33 g'34 d'b);have g'37:=fn d'c (zcL T g'2f d'c);have g'38:=fn d'd (zcz g'37 d'd);have g'39:=fn d'e (zig g'38 d'e);have g'3a:=fn d'f (zg5 T g'2b d'f);have g'3b:=fn d'10 (zg1 T g'39 g'3a d'10);have g'3c:=fn d'11 (zet d'11);have g'3d:=fn d'12 (zd1 T g'36 g'3b g'3c d'12);have g'3e:=fn d'13 (zjg T g'31 g'32 g'35 g'3d d'13);have g'3f:=fn d'14 (zie d'14);have g'40:=fn d'15 (zey g'3f d'15);have g'41:=fn d'16 (zif g'34 d'16);have g'42:=fn d'17 (zfl g'41 g'40 d'17);have g'43:=fn d'18 (zdv g'34 g'30 g'2f g'2c g'2e g'2d d'18);have g'44:=fn d'19 (zd4 g'43 d'19);have g'45:=fn d'1a (zez g'34 d'1a);have g'46:=fn d'1b (zfr T g'45 g'38 d'1b);have g'47:=fn d'1c (zjh T g'3f g'42 g'44 g'46 g'3b d'1c);have g'48:=fn d'1d (zew T d'1d);have g'49:=fn d'1e (tk_of (zg3 T d'1e));have g'4a:=fn d'1f (zih g'49 d'1f);have g'4b:=fn d'20 (zd2 T g'49 d'20);have g'4c:=fn d'21 (zeu T g'49 g'4a g'4b d'21);have g'4d:=fn d'22 (zd3 T d'22);have g'4e:=fn d'23 (zgi d'23);have g'4f:=fn d'24 (zfn T d'24);have g'50:=fn d'25 (zfp g'4e d'25);have g'51:=fn d'26 (zg2 g'50 d'26);have g'52:=fn d'27 (zev T g'51 d'27);have g'53:=fn d'28 (zfq T g'50 d'28);have g'54:=fn d'29 (zfo T g'50 d'29);have g'55:=fn d'2a (zgh T g'47 g'52 g'4d g'54 g'53 d'2a);exact zmd T g'48 g'4c g'3e g'4f g'47 g'55 ⟨_,_,F43,W.mg_of X G a43,b43⟩
theorem walk{l:W.OpenLaw}{q:AF}{loose:List Str}{XP:(Str -> Option Value) -> Heap -> Prop}{YP:A4 -> Heap -> Prop}{d:DefRec}{K:Params -> W.Frag}(hn:l.most=some 63)(hdf:d.params.defaults = [])
  (hY:∀(w:A4) (h:Heap),YP w h->(K w.params).In h)
  (F:∀(w:A4) (mg:Str->Option Value) (fa:Addr) (h:Heap),(K w.params).In h->h.Ns AN mg->mg d.name=some (.ref fa) ->
   ∃fd:Bv,(∀(s:Ab) (u:Value),BindsTo s fd ⟨[u],[]⟩ [("_law_script",u)])/\∀base:Heap,(K w.params).In base->base.Ns AN mg->FnOk l.prog w (K w.params) mg base CX0 8 fa fd ["_law_script"] (spLaw (K w.params))) :
  W.WalkO q loose XP YP l.row.toRowW d [] (λf vs=>PySem.call f vs) :=
 L2.walk_of (n:=63) (k:=8) (x:="_law_script") (CX:=λ_=>CX0) (sp:=λw=>spLaw (K w.params)) hn (by decide) hdf ⟨rfl,by decide,by decide,rfl⟩ hY F (λ_ _ a ns hl _ hS=>⟨a,ns,rfl,hS,hl,λ_=>rfl⟩) λ_ _ _ _ _ z=>z
end RR
namespace PySem.W.Fast
noncomputable def tw8081440158637449807:=()
noncomputable def tw3258380630227916355:=()
noncomputable def tw13269877040255569709:=()
noncomputable def tw11058147971984984866:=()
noncomputable def tw9386446737632535435:=()
noncomputable def tw8575044090605067820:=()
noncomputable def tw8526172390370403479:=()
noncomputable def tw8040154812172256700:=()
noncomputable def tw12212782450938264317:=()
noncomputable def tw4886345478379104028:=()
noncomputable def tw18097199413331796526:=()
noncomputable def tw11700859738304560259:=()
noncomputable def tw675505244114214252:=()
noncomputable def tw3955240287882038054:=()
noncomputable def tw820853873652289557:=()
noncomputable def tw9393346315056195852:=()
noncomputable def tw3467829583494612315:=()
noncomputable def tw8046803841718386303:=()
noncomputable def tw14886705078736341623:=()
noncomputable def tw16201049137341702121:=()
noncomputable def tw17605753101402644552:=()
noncomputable def tw4347389441767599556:=()
noncomputable def tw2033291438831946599:=()
noncomputable def tw1657205606089763006:=()
noncomputable def tw3637141196388147160:=()
noncomputable def tw10111283062570703404:=()
noncomputable def tw12972247618660473150:=()
noncomputable def tw9844751567304475731:=()
noncomputable def tw4643513464494027913:=()
noncomputable def tw14885651033841763941:=()
noncomputable def tw3178444981347962047:=()
noncomputable def tw2580176179730075642:=()
noncomputable def tw12460715116571239982:=()
noncomputable def tw2132916345876588437:=()
noncomputable def tw12302437181690945805:=()
noncomputable def tw13724166871031757328:=()
noncomputable def tw10764078754614080527:=()
noncomputable def tw8979651221419918026:=()
noncomputable def tw11904394076266787152:=()
noncomputable def tw12931008183152144789:=()
noncomputable def tw16735340266989973681:=()
noncomputable def tw10114828337752053919:=()
noncomputable def tw12955495961597041053:=()
noncomputable def tw14868491384027972345:=()
noncomputable def tw959735537971715381:=()
noncomputable def tw13020838175347026390:=()
noncomputable def tw18426797655247970245:=()
noncomputable def tw13850667799130242097:=()
noncomputable def tw8776703021398058224:=()
noncomputable def tw6321436514744445652:=()
noncomputable def tw12750444159344424254:=()
noncomputable def tw8558193931420515678:=()
noncomputable def tw14264976095356364829:=()
noncomputable def tw738970184742251649:=()
noncomputable def tw17383584254476003544:=()
noncomputable def tw12616742827279013022:=()
noncomputable def tw13110733312641836822:=()
noncomputable def tw8374787833999330764:=()
noncomputable def tw3603386087272396963:=()
noncomputable def tw10442656547163384859:=()
noncomputable def tw5776191621549230359:=()
noncomputable def tw14560132630090719119:=()
noncomputable def tw11419532989316779953:=()
noncomputable def tw1087088679978573621:=()
noncomputable def tw15897609200529760255:=()
noncomputable def tw3941845792159512643:=()
noncomputable def tw9122582459640664646:=()
noncomputable def tw7331720779164536976:=()
noncomputable def tw11423453698733455562:=()
noncomputable def tw6730530612260329344:=()
noncomputable def tw8463230820365980280:=()
noncomputable def tw6864096434894021953:=()
noncomputable def tw9616328485194004680:=()
noncomputable def tw11470747580171852446:=()
noncomputable def tw18082656947427250800:=()
noncomputable def tw5800513512160569749:=()
noncomputable def tw48983041711137771:=()
noncomputable def tw9909877081691752069:=()
noncomputable def tw4196262746683772443:=()
noncomputable def tw14736937268332040113:=()
noncomputable def tw10443157203200927886:=()
noncomputable def tw6895804351384746298:=()
noncomputable def tw2171752965132419919:=()
noncomputable def tw1771845216383124405:=()
noncomputable def tw13824332728261321184:=()
noncomputable def tw10251423149754406530:=()
noncomputable def tw2745649219639871781:=()
noncomputable def tw6584017581436760802:=()
noncomputable def tw14144825681974525559:=()
noncomputable def tw17427363700848701224:=()
noncomputable def tw4375849123134501563:=()
noncomputable def tw11154540570778967366:=()
noncomputable def tw8150380648811347133:=()
noncomputable def tw11144430915400301319:=()
noncomputable def tw13465690214219690467:=()
noncomputable def tw12436820475640435477:=()
noncomputable def tw7753446801508696396:=()
noncomputable def tw9135845395075956372:=()
noncomputable def tw2342603849173004763:=()
noncomputable def tw2184508910801719224:=()
noncomputable def tw9192349047542352542:=()
noncomputable def tw11258087083256408593:=()
noncomputable def tw7425651895235941937:=()
noncomputable def tw14326304145074150484:=()
noncomputable def tw18093656829608987155:=()
noncomputable def tw13140187352683492844:=()
noncomputable def tw12845770578929164916:=()
noncomputable def tw16529201244007505094:=()
noncomputable def tw12406737338793662007:=()
noncomputable def tw4575994901559433491:=()
noncomputable def tw14591117754264096062:=()
noncomputable def tw2379611152966552159:=()
noncomputable def tw1611439215359904665:=()
noncomputable def tw12343999894593049854:=()
noncomputable def tw5044962770202381940:=()
noncomputable def tw8097437978854923248:=()
noncomputable def tw11988631361928135125:=()
noncomputable def tw13516799091493422097:=()
noncomputable def tw11959530494180668330:=()
noncomputable def tw16073492747131381726:=()
noncomputable def tw2701040413334078966:=()
noncomputable def tw2394329963135184795:=()
noncomputable def tw9481266425052394542:=()
noncomputable def tw12526770663282602088:=()
noncomputable def tw6977307673975105458:=()
noncomputable def tw15555228066039521208:=()
noncomputable def tw6338579289514874623:=()
noncomputable def tw7449524958700092543:=()
noncomputable def tw5857706906746072423:=()
noncomputable def tw3832692704396536848:=()
noncomputable def tw2915713684486808634:=()
noncomputable def tw2420120066753379563:=()
noncomputable def tw12257289830354258084:=()
noncomputable def tw10800963162869312144:=()
noncomputable def tw16004765783645908026:=()
noncomputable def tw12692181890550319169:=()
noncomputable def tw5052595144029773604:=()
noncomputable def tw1264454932351259353:=()
noncomputable def tw12510140197385147694:=()
noncomputable def tw1509327520162841750:=()
noncomputable def tw4216017808769397572:=()
noncomputable def tw16181367287085175134:=()
noncomputable def tw17507460715481623964:=()
noncomputable def tw9194239386870957920:=()
noncomputable def tw15012961761059660711:=()
noncomputable def tw16233787868753695157:=()
noncomputable def tw16814292446342761998:=()
noncomputable def tw6356453857349079484:=()
noncomputable def tw2077576709875639203:=()
noncomputable def tw8393477597633374670:=()
noncomputable def tw8537709148367145356:=()
noncomputable def tw9915235403219504093:=()
noncomputable def tw15633499281069809119:=()
noncomputable def tw17749826305299681592:=()
noncomputable def tw7863943578728512102:=()
noncomputable def tw16255228328143154155:=()
noncomputable def tw7327144265902464333:=()
noncomputable def tw2602081699117390278:=()
noncomputable def tw16418995656782011322:=()
noncomputable def tw318682983696919115:=()
noncomputable def tw7335908855572639383:=()
noncomputable def tw357135242792104943:=()
noncomputable def tw2241086495996147809:=()
noncomputable def tw18308794124649304150:=()
noncomputable def tw16627367681464075103:=()
noncomputable def tw8584321309025030634:=()
noncomputable def tw15835897360378289689:=()
noncomputable def tw16404071902415991066:=()
noncomputable def tw4736119709142104234:=()
noncomputable def tw14921576885287811679:=()
noncomputable def tw3680617223698286803:=()
noncomputable def tw526983962655364175:=()
noncomputable def tw1747379477058248195:=()
noncomputable def tw5398434763801870944:=()
noncomputable def tw4363860517766947065:=()
noncomputable def tw1890664509988762179:=()
noncomputable def tw17497002174383649046:=()
noncomputable def tw3956942070426571998:=()
noncomputable def tw13046755326479244070:=()
noncomputable def tw6494358502797876598:=()
noncomputable def tw4464931272304687655:=()
noncomputable def tw8411001537219741648:=()
noncomputable def tw1024622992740817744:=()
noncomputable def tw2865688763372569336:=()
noncomputable def tw8184878788474126809:=()
noncomputable def tw17028254361523223797:=()
noncomputable def tw2115522971808315432:=()
noncomputable def tw12311106347386735305:=()
noncomputable def tw11648093114887209474:=()
noncomputable def tw11294748364704606812:=()
noncomputable def tw14682602688332539042:=()
noncomputable def tw16128728254670403134:=()
noncomputable def tw5743553029386082716:=()
noncomputable def tw2752161979659334375:=()
noncomputable def tw6399030584751653587:=()
noncomputable def tw15849501218230289204:=()
noncomputable def tw11788162265367593964:=()
noncomputable def tw425754795259551596:=()
noncomputable def tw8884946549425762214:=()
noncomputable def tw18389575924193235257:=()
noncomputable def tw3096070104678531260:=()
noncomputable def tw16478266222154086503:=()
noncomputable def tw2217263454119181845:=()
noncomputable def tw13455855662121429607:=()
noncomputable def tw9765064622639363919:=()
noncomputable def tw9386265698785265319:=()
noncomputable def tw123823958323033827:=()
noncomputable def tw12730178926862104566:=()
noncomputable def tw9134036225489235044:=()
noncomputable def tw1060623738628220518:=()
noncomputable def tw12221378415529781377:=()
noncomputable def tw10345319999477929475:=()
noncomputable def tw14651899780972102303:=()
noncomputable def tw12234300676838661122:=()
noncomputable def tw3964522824778145356:=()
noncomputable def tw715192029823505341:=()
noncomputable def tw926917762466599935:=()
noncomputable def tw1852670736514738419:=()
noncomputable def tw3048947122338878497:=()
noncomputable def tw1957175730746770813:=()
noncomputable def tw11567654169353760183:=()
noncomputable def tw7977010335245170327:=()
noncomputable def tw292933162511224359:=()
noncomputable def tw127812400817035946:=()
noncomputable def tw5277464654619945824:=()
noncomputable def tw7486404274107018320:=()
noncomputable def tw7426456235451061539:=()
end PySem.W.Fast
open PySem PySem.W PyProof.Rows
set_option maxRecDepth 100000 in
set_option maxHeartbeats 0 in
theorem PySem.Challenge.cw_rimsteps_k51_by_an_eighth_holds : PySem.Challenge.rw_rimsteps_k51_by_an_eighth.Holds := by
 w_on;o_law;k_head;(case hw=>w_witness2)
 k_fill
 refine RR.walk (l:=PySem.Challenge.rw_rimsteps_k51_by_an_eighth) rfl rfl (λw h Y=>W.kIn_of Y) ?F
 case F =>
  intro w mg fa h KX G hmg
  refine' RR.all_mk KX G hmg (.mk ?a0 ?l0 ?c0 ?k0) (.mk ?a1 ?l1 ?c1 ?k1) (.mk ?a2 ?l2 ?c2 ?k2) (.mk ?a3 ?l3 ?c3 ?k3) (.mk ?a4 ?l4 ?c4 ?k4) (.mk ?a5 ?l5 ?c5 ?k5) (.mk ?a6 ?l6 ?c6 ?k6) (.mk ?a7 ?l7 ?c7 ?k7) (.mk ?a8 ?l8 ?c8 ?k8) (.mk ?a9 ?l9 ?c9 ?k9) (.mk ?a10 ?l10 ?c10 ?k10) (.mk ?a11 ?l11 ?c11 ?k11) (.mk ?a12 ?l12 ?c12 ?k12) (.mk ?a13 ?l13 ?c13 ?k13) (.mk ?a14 ?l14 ?c14 ?k14) (.mk ?a15 ?l15 ?c15 ?k15) (.mk ?a16 ?l16 ?c16 ?k16) (.mk ?a17 ?l17 ?c17 ?k17) (.mk ?a18 ?l18 ?c18 ?k18) (.mk ?a19 ?l19 ?c19 ?k19) (.mk ?a20 ?l20 ?c20 ?k20) (.mk ?a21 ?l21 ?c21 ?k21) (.mk ?a22 ?l22 ?c22 ?k22) (.mk ?a23 ?l23 ?c23 ?k23) (.mk ?a24 ?l24 ?c24 ?k24) (.mk ?a25 ?l25 ?c25 ?k25) (.mk ?a26 ?l26 ?c26 ?k26) (.mk ?a27 ?l27 ?c27 ?k27) (.mk ?a28 ?l28 ?c28 ?k28) (.mk ?a29 ?l29 ?c29 ?k29) (.mk ?a30 ?l30 ?c30 ?k30) (.mk ?a31 ?l31 ?c31 ?k31) (.mk ?a32 ?l32 ?c32 ?k32) (.mk ?a33 ?l33 ?c33 ?k33) (.mk ?a34 ?l34 ?c34 ?k34) (.mk ?a35 ?l35 ?c35 ?k35) (.mk ?a36 ?l36 ?c36 ?k36) (.mk ?a37 ?l37 ?c37 ?k37) (.mk ?a38 ?l38 ?c38 ?k38) (.mk ?a39 ?l39 ?c39 ?k39) (.mk ?a40 ?l40 ?c40 ?k40) (.mk ?a41 ?l41 ?c41 ?k41) (.mk ?a42 ?l42 ?c42 ?k42) ?a43 ?l43 ?c43 ?k43 ?aM ?lM ?x0 ?x1 ?x2 ?x3 ?x4 ?x5 ?x6 ?x7 ?aB ?lB ?aB2 ?lB2 ?z_abs ?z_max ?z_any ?z_range ?z_len ?z_min ?z_sorted ?z_tuple ?z_int ?z_bool ?z_str ?z_all ?z_isinstance ?z_list ?z_sum ?z_enumerate ?z_zip
  (case a0=>k_is)
  (case l0=>k_is)
  (case c0=>k_is)
  (case k0=>k_is)
  (case a1=>k_is)
  (case l1=>k_is)
  (case c1=>k_is)
  (case k1=>k_is)
  (case a2=>k_is)
  (case l2=>k_is)
  (case c2=>k_is)
  (case k2=>k_is)
  (case a3=>k_is)
  (case l3=>k_is)
  (case c3=>k_is)
  (case k3=>k_is)
  (case a4=>k_is)
  (case l4=>k_is)
  (case c4=>k_is)
  (case k4=>k_is)
  (case a5=>k_is)
  (case l5=>k_is)
  (case c5=>k_is)
  (case k5=>k_is)
  (case a6=>k_is)
  (case l6=>k_is)
  (case c6=>k_is)
  (case k6=>k_is)
  (case a7=>k_is)
  (case l7=>k_is)
  (case c7=>k_is)
  (case k7=>k_is)
  (case a8=>k_is)
  (case l8=>k_is)
  (case c8=>k_is)
  (case k8=>k_is)
  (case a9=>k_is)
  (case l9=>k_is)
  (case c9=>k_is)
  (case k9=>k_is)
  (case a10=>k_is)
  (case l10=>k_is)
  (case c10=>k_is)
  (case k10=>k_is)
  (case a11=>k_is)
  (case l11=>k_is)
  (case c11=>k_is)
  (case k11=>k_is)
  (case a12=>k_is)
  (case l12=>k_is)
  (case c12=>k_is)
  (case k12=>k_is)
  (case a13=>k_is)
  (case l13=>k_is)
  (case c13=>k_is)
  (case k13=>k_is)
  (case a14=>k_is)
  (case l14=>k_is)
  (case c14=>k_is)
  (case k14=>k_is)
  (case a15=>k_is)
  (case l15=>k_is)
  (case c15=>k_is)
  (case k15=>k_is)
  (case a16=>k_is)
  (case l16=>k_is)
  (case c16=>k_is)
  (case k16=>k_is)
  (case a17=>k_is)
  (case l17=>k_is)
  (case c17=>k_is)
  (case k17=>k_is)
  (case a18=>k_is)
  (case l18=>k_is)
  (case c18=>k_is)
  (case k18=>k_is)
  (case a19=>k_is)
  (case l19=>k_is)
  (case c19=>k_is)
  (case k19=>k_is)
  (case a20=>k_is)
  (case l20=>k_is)
  (case c20=>k_is)
  (case k20=>k_is)
  (case a21=>k_is)
  (case l21=>k_is)
  (case c21=>k_is)
  (case k21=>k_is)
  (case a22=>k_is)
  (case l22=>k_is)
  (case c22=>k_is)
  (case k22=>k_is)
  (case a23=>k_is)
  (case l23=>k_is)
  (case c23=>k_is)
  (case k23=>k_is)
  (case a24=>k_is)
  (case l24=>k_is)
  (case c24=>k_is)
  (case k24=>k_is)
  (case a25=>k_is)
  (case l25=>k_is)
  (case c25=>k_is)
  (case k25=>k_is)
  (case a26=>k_is)
  (case l26=>k_is)
  (case c26=>k_is)
  (case k26=>k_is)
  (case a27=>k_is)
  (case l27=>k_is)
  (case c27=>k_is)
  (case k27=>k_is)
  (case a28=>k_is)
  (case l28=>k_is)
  (case c28=>k_is)
  (case k28=>k_is)
  (case a29=>k_is)
  (case l29=>k_is)
  (case c29=>k_is)
  (case k29=>k_is)
  (case a30=>k_is)
  (case l30=>k_is)
  (case c30=>k_is)
  (case k30=>k_is)
  (case a31=>k_is)
  (case l31=>k_is)
  (case c31=>k_is)
  (case k31=>k_is)
  (case a32=>k_is)
  (case l32=>k_is)
  (case c32=>k_is)
  (case k32=>k_is)
  (case a33=>k_is)
  (case l33=>k_is)
  (case c33=>k_is)
  (case k33=>k_is)
  (case a34=>k_is)
  (case l34=>k_is)
  (case c34=>k_is)
  (case k34=>k_is)
  (case a35=>k_is)
  (case l35=>k_is)
  (case c35=>k_is)
  (case k35=>k_is)
  (case a36=>k_is)
  (case l36=>k_is)
  (case c36=>k_is)
  (case k36=>k_is)
  (case a37=>k_is)
  (case l37=>k_is)
  (case c37=>k_is)
  (case k37=>k_is)
  (case a38=>k_is)
  (case l38=>k_is)
  (case c38=>k_is)
  (case k38=>k_is)
  (case a39=>k_is)
  (case l39=>k_is)
  (case c39=>k_is)
  (case k39=>k_is)
  (case a40=>k_is)
  (case l40=>k_is)
  (case c40=>k_is)
  (case k40=>k_is)
  (case a41=>k_is)
  (case l41=>k_is)
  (case c41=>k_is)
  (case k41=>k_is)
  (case a42=>k_is)
  (case l42=>k_is)
  (case c42=>k_is)
  (case k42=>k_is)
  (case a43=>k_is)
  (case l43=>k_is)
  (case c43=>k_is)
  (case k43=>k_is)
  (case aM=>k_is)
  (case lM=>k_is)
  (case x0=>k_is)
  (case x1=>k_is)
  (case x2=>k_is)
  (case x3=>k_is)
  (case x4=>k_is)
  (case x5=>k_is)
  (case x6=>k_is)
  (case x7=>k_is)
  (case aB=>k_is)
  (case lB=>k_is)
  (case aB2=>k_is)
  (case lB2=>k_is)
  (case z_abs=>k_is)
  (case z_max=>k_is)
  (case z_any=>k_is)
  (case z_range=>k_is)
  (case z_len=>k_is)
  (case z_min=>k_is)
  (case z_sorted=>k_is)
  (case z_tuple=>k_is)
  (case z_int=>k_is)
  (case z_bool=>k_is)
  (case z_str=>k_is)
  (case z_all=>k_is)
  (case z_isinstance=>k_is)
  (case z_list=>k_is)
  (case z_sum=>k_is)
  (case z_enumerate=>k_is)
  (case z_zip=>k_is)

import PyProof.Rows.All
import Wide.All
import OpenK.AllK
import Wide.FinOn
import Lean
import PyProof.EqAt
import PyProof.EqKinds
import PyProof.TupleCall
import PySem.Challenge.RW_rimsteps_k85_drawn_texts_refused
set_option Elab.async false
set_option linter.all false
set_option maxRecDepth 100000
open PySem.Str renaming ofString → Aa
open PySem renaming Shared → Ab,wpAny_bind → Ac,Program → Am,model → Ap,wpAny → Aq,wpAny_pure → As,mainGlobals → Au,Around → Aw,starEach → AA,World → AB,FuncData → A5,Spec → Be,wpAny_truthy_bool → Bk,compareOp → Bp,wpAny_holding → Bw,rawInt → By,wpAny_Call_Name_kw → BF,wpAny_field → BO,wpAny_mono → BR,assignEach → B2,mem_of_lookup → B5,wpAny_of_eq → Cd,strIterType → Ce,binaryOp → Cu,sliceBounds → Cz,sysModules → CA,backTo → CB,codeAny → CC,wpAny_setField_rec → CF,letOwnedTupleGo → CI,wpAny_loadPart' → CK,wpAny_newObj_type → CQ,wpAny_loadPart_at → CS,ExcBaseFacts → C4,Model → Db,behindInMarks → Dc,attributeBase → Dd,wpAny_standAt → De,wpAny_comprehension_free → Dg,wpAny_passesOwn → Dk,typeIs_str → Dl
open List renaming getElem?_eq_getElem → Ad,length_map → Ae,getD_eq_getElem?_getD → Ah,getElem?_eq_some_iff → Aj,map_append → Ak,length_append → At,mem_singleton → Av,mem_cons → Ax,replicate → Ay,size_toArray → Az,length_drop → AC,length_cons → AD,set_cons_succ → AF,set_cons_zero → AG,mem_cons_of_mem → AH,length_take → AJ,take_of_length_le → AL,mem_map → AO,mem_of_getElem? → AQ,lookup_cons → AW,mem_append_right → AY,map_cons → AZ,length_range → A2,range → A3,mem_cons_self → A4,getElem?_map → A8,getElem?_drop → A9,drop_eq_nil_of_le → Bf,getElem?_append_right → Bs,length_nil → Bv,getElem_mem → Bz,getElem?_append_left → BA,replicate_succ → BB,length_eq_zero_iff → BI,drop_eq_getElem_cons → BP,mem_append → B0,append_nil → B3,length_pos_iff → B6,lookup → Cc,range_succ → Cm,flatten_cons → Cn,map_drop → Cr,getElem_of_mem → Ct,find?_cons → CJ,getElem?_eq_none → CO,mem_iff_getElem? → CP,mem_append_left → CT,drop_zero → CY,any_eq_true → C5,filterMap_cons → C7,map_congr_left → Da,pairwise_append → Do,nodup_cons → Dp
open PySem.Txt renaming split → Af,slice → Bd,join → Bt
open PySem.Heap renaming get?_push_of_some → Ag,lt_size → Ao,get?_push_size → Ar,SameBut → BK,get?_update_other → BL
open Nat renaming le_refl → Ai,lt_of_lt_of_le → AE,le_trans → AK,ne_of_lt → AS,zero_le → A1,lt_of_le_of_lt → A6,eq_zero_or_pos → BU,lt_or_ge → B8,lt_irrefl → Cb,pow_le_pow_right → Cp
open PySem.F renaming plainAttrs_str → An,plainAttrs_list → AR,slot_str_join → AT,type_str_join → AU,slot_list_append → Ba,type_list_append → Bb,slot_str_split → Bg,type_str_split → Bh,slot_enumerate_next → B9,slot_str_count → CG,type_str_count → CH,slot_list_extend → Di,type_list_extend → Dj
open Bool renaming false_ne_true → AI,eq_false_iff → AN,and_eq_true → AX,eq_iff_iff → Cj,true_and → CN,and_false → CV,or_eq_false_iff → C0,not_eq_false' → Dm
open PySem.Value renaming ref → AM,none → BQ
open PyProof.Rows renaming callWith_type1 → AV,SortKind → Cg,split_le → Ch,IntsAre → C1
open PySem.SeqAt renaming shaped → A0
open PySem.NameKind renaming free → A7,cell → CL
open PySem.NumText renaming digitsVal → Bc,AllDigits → BZ
open PySem.PyData renaming keyHash → Bi,canLayAll0 → BC,depth → BW,canLay0 → BX,eqv → B4,depthAll → Ck,eqvAll → CM,int → CW,strOk → C6
open False renaming elim → Bj
open PySem.W renaming findIn → Bl,mg_none_of → Bo,nsIn → BD,mg_of → B7,keepIn → Cv,kia_one → Cw,InstAt → CU,fnOf → C8
open PySem.Builtin.Range renaming rangeFitsLong → Bm,rangeSize → Bq
open PySem.Builtin.Str renaming occurrences → Br
open Option.some renaming inj → Bu
open PySem.PassesOwn renaming never → Bx
open Int renaming emod_nonneg → BE,emod_lt_of_pos → BG,zero_add → BM,toNat_natCast → BY,le_refl → Co,eq_ofNat_of_zero_le → Cy
open PySem.StrLaws renaming join_split → BH
open Ne renaming symm → BJ
open Option renaming map_eq_some_iff → BN
open True renaming intro → BS
open Lean renaming maxHeartbeats → BV,maxRecDepth → Ca
open ToString renaming toString → Cf
open PySem.Builtin.SmallTypes renaming nextOf → Ci,ownedTupleHandOut → C9,ownedTupleIsFree → Dh
open PySem.Builtin.List renaming listTooLong → Cq
open Array renaming length_toList → Cs,getElem?_eq_some_iff → CZ
open Or renaming inr → CD
namespace L2
open PySem PySem.Spec PyProof.Rows
noncomputable abbrev Key:=Sum Int Str
noncomputable def keyIs:Key->Value->Bool
 |.inl k,v=>Value.isInt k v
 |.inr x,v=>Value.isStrOf x v
noncomputable def keyH(w:AB):Key->Int
 |.inl k=>hashInt k
 |.inr x=>hashStr w x
theorem zaM:∀{k:Key}{v:Value},keyIs k v=true->(∃i t,k=Sum.inl i/\v=Value.int i t)∨(∃x t,k=Sum.inr x/\v=Value.str x t)
 |.inl i,v,h=>by
  obtain⟨t,e⟩:=Value.isInt_shape (k:=i) (v:=v) h;exact .inl ⟨i,t,rfl,e⟩
 |.inr x,v,h=>by
  obtain⟨t,e⟩:=Value.isStrOf_shape (x:=x) (v:=v) h;exact .inr ⟨x,t,rfl,e⟩
theorem zg9(i:Int)(t:Tok):keyIs (.inl i) (.int i t)=true:=by simp[keyIs,Value.isInt]
theorem zg8(x:Str)(t:Tok):keyIs (.inr x) (.str x t)=true:=by simp[keyIs,Value.isStrOf]
theorem zjW(a b:Int):decide ((Sum.inl a:Key)=Sum.inl b)=(a == b):=by
 by_cases e:a=b
 .subst e;simp
 .have h:¬ (Sum.inl a:Key)=Sum.inl b:=λq=>e (Sum.inl.inj q)
  rw[decide_eq_false h];exact (beq_eq_false_iff_ne.mpr e).symm
theorem zjT(a b:Str):decide ((Sum.inr a:Key)=Sum.inr b)=decide (a=b):=by
 by_cases e:a=b
 .subst e;simp
 .have h:¬ (Sum.inr a:Key)=Sum.inr b:=λq=>e (Sum.inr.inj q)
  rw[decide_eq_false h,decide_eq_false e]
theorem zjV(a:Int)(b:Str):decide ((Sum.inl a:Key)=Sum.inr b)=false:=decide_eq_false (λq=>nomatch q)
theorem zjU(a:Str)(b:Int):decide ((Sum.inr a:Key)=Sum.inl b)=false:=decide_eq_false (λq=>nomatch q)
noncomputable def zaP(prog:Am)(w:AB):PySem.KeyKind prog w Key where
 is:=keyIs
 hash:=keyH w
 inj:=λv a b ha hb=>by
  rcases zaM ha with⟨i,t,rfl,rfl⟩ |⟨x,t,rfl,rfl⟩
  .rcases zaM hb with⟨j,u,rfl,e⟩ |⟨y,u,rfl,e⟩
   .injection e with e1 _;rw[e1]
   .exact nomatch e
  .rcases zaM hb with⟨j,u,rfl,e⟩ |⟨y,u,rfl,e⟩
   .exact nomatch e
   .injection e with e1 _;rw[e1]
 byValue:=λk v h=>by rcases zaM h with⟨i,t,rfl,rfl⟩ |⟨x,t,rfl,rfl⟩ <;> rfl
 pyHash:=λhv h=>by
  rcases zaM hv with⟨i,t,rfl,rfl⟩ |⟨x,t,rfl,rfl⟩
  .exact wpAny_pyHash_int h
  .exact wpAny_pyHash_str h
 eqBool:=λhu hv h=>by
  rcases zaM hu with⟨i,t,rfl,rfl⟩ |⟨x,t,rfl,rfl⟩
  .rcases zaM hv with⟨j,u,rfl,rfl⟩ |⟨y,u,rfl,rfl⟩
   .rw[zjW]at h;exact wpAny_eqBool_int h
   .rw[zjV]at h;exact SeqAt.EqAt.int_str i t y u _ _ _ _ h
  .rcases zaM hv with⟨j,u,rfl,rfl⟩ |⟨y,u,rfl,rfl⟩
   .rw[zjU]at h;exact SeqAt.EqAt.str_int x t j u _ _ _ _ h
   .rw[zjT]at h;exact wpAny_eqBool_str h
 «strs»:=λk x t v h=>by
  rcases zaM h with⟨i,u,rfl,e⟩ |⟨y,u,rfl,e⟩
  .exact nomatch e
  .injection e with e1 _;subst e1
   cases v <;> rfl
theorem zfo(prog:Am)(w:AB)(i:Int)(t:Tok):(zaP prog w).is (.inl i) (.int i t)=true:=zg9 i t
theorem zbO(prog:Am)(w:AB)(x:Str)(t:Tok):(zaP prog w).is (.inr x) (.str x t)=true:=zg8 x t
inductive V where
 |non |bl (b:Bool) |int (i:Int) |str (x:Str) |byt (b:Array UInt8) |flt (b:UInt64) |ref (a:Addr) |ty (n:String)
 deriving DecidableEq
noncomputable def RelV:V->Value->Prop
 |.non,u=>u=BQ
 |.bl b,u=>u=Value.bool b
 |.int i,u=>∃t,u=Value.int i t
 |.str x,u=>∃t,u=Value.str x t
 |.byt b,u=>∃t,u=Value.bytes b t
 |.flt b,u=>∃t,u=Value.float b t
 |.ref a,u=>u=AM a
 |.ty n,u=>u=Value.type n
noncomputable abbrev Vals:List V->List Value->Prop:=Paired RelV
theorem Vals.length{xs:List V}{us:List Value}(r:Vals xs us):xs.length=us.length:=Paired.length r
theorem Vals.get:∀{xs:List V}{us:List Value}{i:Nat}{x:V},Vals xs us->xs[i]?=some x->∃u,us[i]?=some u/\RelV x u
 |_,_,_,_,.nil,e=>by simp at e
 |_,_,0,_,.cons r _,e=>by simp at e;subst e;exact⟨_,rfl,r⟩
 |_,_,i+1,x,.cons _ t,e=>by
  obtain⟨u,h1,h2⟩:=Vals.get (i:=i) (x:=x) t (by simpa using e);exact⟨u,by simpa using h1,h2⟩
theorem Vals.append:∀{xs ys:List V}{us ws:List Value},Vals xs us->Vals ys ws->Vals (xs++ys) (us++ws)
 |_,_,_,_,.nil,s=>s
 |_,_,_,_,.cons r t,s=>.cons r (Vals.append t s)
theorem Vals.take:∀{xs:List V}{us:List Value}(n:Nat),Vals xs us->Vals (xs.take n) (us.take n)
 |_,_,0,_=>.nil
 |_,_,_+1,.nil=>.nil
 |_,_,n+1,.cons r t=>.cons r (Vals.take n t)
theorem Vals.drop:∀{xs:List V}{us:List Value}(n:Nat),Vals xs us->Vals (xs.drop n) (us.drop n)
 |_,_,0,r=>r
 |_,_,_+1,.nil=>.nil
 |_,_,n+1,.cons _ t=>Vals.drop n t
noncomputable def RelO:Option V->Option Value->Prop
 |some v,some u=>RelV v u
 |none,none=>True
 |_,_=>False
noncomputable def KV{κ:Type}:List (κ×V)->List (κ×Value)->Prop:=Paired λ(p:κ×V) (q:κ×Value)=>p.1=q.1/\RelV p.2 q.2
noncomputable def kV:Key->V
 |.inl i=>.int i
 |.inr x=>.str x
inductive HO where
 /-- a list -/
 |lst (xs:List V)
 /-- a tuple (never changes) -/
 |tup (xs:List V)
 /-- a dict whose keys are ints and texts;one whose keys are tuples of ints and texts (the empty one is both) -/
 |dK (kvs:List (Key×V)) |dT (kvs:List (List Key×V))
 /-- a set of ints: its members,its size -/
 |set (S:Int->Bool) (n:Nat)
 /-- an instance of the class at C,its dict at dx,its attributes -/
 |ins (C dx:Addr) (fs:List (Str×V))
 /-- the dict of the instance at x -/
 |own (x:Addr)
 /-- the dict of an exception -/
 |xd (fs:List (Str×V))
 /-- a bound method,f of x -/
 |met (f x:Addr)
 /-- a range object lo,lo+1,.. below hi -/
 |rng (lo hi:Int)
 /-- a thing that is known to the object (the script;a dict while a loop walks it): read,never written while it is so -/
 |frz (o:Obj) (u:HO)
 /-- a code object's table -/
 |tbl (ps:Array Value)
 /-- any other thing,by what is true of its one object (a def of one's own: SetO a S n:=HO.ext λh=>..) -/
 |ext (φ:Heap->Prop)
noncomputable abbrev Hp:=Addr->Option HO
noncomputable def upd(H:Hp)(a:Addr)(o:HO):Hp:=λb=>if b=a then some o else H b
theorem zaa{H:Hp}{a:Addr}{o:HO}:upd H a o a=some o:=by unfold upd;rw[if_pos rfl]
theorem zam{H:Hp}{a b:Addr}{o:HO}(h:b≠a):upd H a o b=H b:=by unfold upd;rw[if_neg h]
theorem zgo{H:Hp}{a:Addr}{o u:HO}:upd (upd H a o) a u=upd H a u:=by
 funext b;unfold upd;split <;> rfl
theorem ne_of{H:Hp}{a b:Addr}{o u:HO}(h:H a=some o)(h':H b=some u)(d:o≠u):a≠b:=by intro e;subst e;rw[h]at h';exact d (Bu h')
theorem zaS{H:Hp}{a b:Addr}{o:HO}(h:H a=some o)(h':H b=none):a≠b:=by intro e;subst e;rw[h]at h';cases h'
section
variable (P:Am) (w:AB)
noncomputable def ObjOk(H:Hp)(h:Heap)(a:Addr):HO->Prop
  |.lst xs=>xs.length<=sizeLine/\∃(its:List Value) (n:Nat),Vals xs its/\h.get? a=some { cls:=.type "list",data:=.seq its.toArray n }
  |.tup xs=>xs.length<=sizeLine/\∃its:List Value,Vals xs its/\IsTup h a its.toArray
  |.dK kvs=>kvs.length<=sizeLine/\(a == CA)=false/\∃vs,KV kvs vs/\h.DictOf (zaP P w) a vs
  |.dT kvs => kvs.length <= sizeLine /\ (a == CA)=false /\ ∃xs:List (List Key × Addr × Value),
      Paired (λ(p:List Key×V) (q:List Key×Addr×Value)=>p.1=q.1/\H q.2.1=some (.tup (p.1.map kV))/\RelV p.2 q.2.2) kvs xs /\
      ∃o es ep,h.get? a=some o/\o.ExactDict/\o.data=.dict es ep/\es.toList=xs.map (entryOfKey (tupleKind (zaP P w)))/\(xs.map (·.1)).Nodup
  |.set S n=>h.SetOf (intKind P w) a S n
  |.ins C dx fs => H dx=some (.own a) /\ fs.length <= 1000 /\ dx ≠ a /\ h.get? a=some (W.instObj C dx) /\
      ∃mA,h.Ns1 dx mA/\(∀f,RelO (fs.lookup f) (mA f))/\PySem.Within mA (fs.map (·.1))
  |.own _=>∃o,h.get? a=some o
  |.xd fs=>∃mA,h.Ns1 a mA/\∀f,RelO (fs.lookup f) (mA f)
  |.rng lo hi=>∃t u v,h.get? a=some { cls:=.type "range",data:=.fields #[.int lo t,.int hi u,.int 1 v] }
  |.frz o u=>h.get? a=some o/\ObjOk H h a u
  |.tbl ps=>h.get? a=some { cls:=.none,data:=.fields ps }
  |.met f x=>h.get? a=some (W.methodObj (.ref f) (.ref x))
  |.ext φ=>φ h/\(∃o,h.get? a=some o)/\∀h1 h2:Heap,φ h1->(∀o,h1.get? a=some o->h2.get? a=some o)->φ h2
noncomputable def HOk(H:Hp)(h:Heap):Prop:=∀a o,H a=some o->ObjOk P w H h a o
end
section
variable {P:Am}{w:AB}{H H':Hp}{h h':Heap}{a:Addr}{o:HO}
theorem ObjOk.lt(x:ObjOk P w H h a o):a<h.objs.size:=by
 cases o with
 |lst xs=>obtain⟨_,_,_,_,e⟩:=x;exact Ao e
 |tup xs=>obtain⟨_,_,_,p⟩:=x;exact p.lt
 |dK kvs=>obtain⟨_,_,_,_,o,_,_,e,_⟩:=x;exact Ao e
 |dT kvs=>obtain⟨_,_,_,_,o,_,_,e,_⟩:=x;exact Ao e
 |set S n=>obtain⟨o,_,_,_,e,_⟩:=x;exact Ao e
 |ins C dx fs=>obtain⟨_,_,_,e,_⟩:=x;exact Ao e
 |own y=>obtain⟨_,e⟩:=x;exact Ao e
 |xd fs=>obtain⟨_,⟨_,_,_,e,_⟩,_⟩:=x;exact Ao e
 |rng lo hi=>obtain⟨_,_,_,e⟩:=x;exact Ao e
 |frz ob u=>obtain⟨e,_⟩:=x;exact Ao e
 |tbl ps=>exact Ao (show h.get? a=some _ from x)
 |met f y=>exact Ao (show h.get? a=some _ from x)
 |ext φ=>obtain⟨_,⟨_,e⟩,_⟩:=x;exact Ao e
theorem Paired.mapP{α β:Type}{F G:α->β->Prop}:∀{l₁:List α}{l₂:List β},Paired F l₁ l₂->(∀a b,F a b->G a b)->Paired G l₁ l₂
 |_,_,.nil,_=>.nil
 |_,_,.cons r t,f=>.cons (f _ _ r) (Paired.mapP t f)
theorem ObjOk.stay(x:ObjOk P w H h a o)(k:∀b u, (b=a ∨ H b=some (.own a)) -> h.get? b=some u -> h'.get? b=some u)
  (ho:∀b,H b=some (.own a)->H' b=some (.own a)) (ht:∀b xs,H b=some (.tup xs)->H' b=some (.tup xs)):ObjOk P w H' h' a o:=by
 induction o with
 |lst xs=>obtain⟨z,its,n,r,e⟩:=x;exact⟨z,its,n,r,k _ _ (.inl rfl) e⟩
 |tup xs=>obtain⟨z,its,r,ob,e,c⟩:=x;exact⟨z,its,r,ob,k _ _ (.inl rfl) e,c⟩
 |dK kvs=>obtain⟨z,y,vs,r,ob,es,ep,e,c⟩:=x;exact⟨z,y,vs,r,ob,es,ep,k _ _ (.inl rfl) e,c⟩
 |dT kvs =>
  obtain⟨z,y,xs,r,ob,es,ep,e,c⟩:=x;exact⟨z,y,xs,Paired.mapP r λp q z=>⟨z.1,ht _ _ z.2.1,z.2.2⟩,ob,es,ep,k _ _ (.inl rfl) e,c⟩
 |set S n=>obtain⟨ob,es,ep,t,e,c⟩:=x;exact⟨ob,es,ep,t,k _ _ (.inl rfl) e,c⟩
 |ins C dx fs =>
  obtain⟨d,z,ne,e,mA,⟨od,es,ep,e2,c⟩,r⟩:=x;exact⟨ho _ d,z,ne,k _ _ (.inl rfl) e,mA,⟨od,es,ep,k _ _ (.inr d) e2,c⟩,r⟩
 |own y=>obtain⟨ob,e⟩:=x;exact⟨ob,k _ _ (.inl rfl) e⟩
 |xd fs=>obtain⟨mA,⟨od,es,ep,e,c⟩,r⟩:=x;exact⟨mA,⟨od,es,ep,k _ _ (.inl rfl) e,c⟩,r⟩
 |rng lo hi=>obtain⟨t,u,v,e⟩:=x;exact⟨t,u,v,k _ _ (.inl rfl) e⟩
 |frz ob u ih=>obtain⟨e,q⟩:=x;exact⟨k _ _ (.inl rfl) e,ih q⟩
 |tbl ps =>
  have e:h.get? a=some { cls:=.none,data:=.fields ps }:=x;show h'.get? a=some { cls:=.none,data:=.fields ps };exact k a _ (.inl rfl) e
 |met f y =>
  have e:h.get? a=some (W.methodObj (.ref f) (.ref y)):=x;show h'.get? a=some (W.methodObj (.ref f) (.ref y));exact k a _ (.inl rfl) e
 |ext φ=>obtain⟨p,⟨o,e⟩,st⟩:=x;exact⟨st _ _ p λo q=>k _ _ (.inl rfl) q,⟨o,k _ _ (.inl rfl) e⟩,st⟩
theorem HOk.lt(x:HOk P w H h)(e:H a=some o):a<h.objs.size:=(x a o e).lt
theorem HOk.fresh(x:HOk P w H h)(e:h.objs.size<=a):H a=none:=by
 cases q:H a with
 |none=>rfl
 |some u=>exact absurd (AE (x.lt q) e) (Cb _)
theorem HOk.kept(x:HOk P w H h)(k:∀b u,h.get? b=some u->h'.get? b=some u):HOk P w H h':=λa o e =>
 (x a o e).stay (λb u _ q=>k b u q) (λ_ q=>q) λ_ _ q=>q
theorem HOk.laid(x:HOk P w H h)(k:∀b u,h.get? b=some u->h'.get? b=some u)(hp:h.objs.size<=a)(new:ObjOk P w (upd H a o) h' a o):HOk P w (upd H a o) h':=λb u e=>by
 have hn:=x.fresh hp
 by_cases hb:b=a
 .subst hb;rw[zaa]at e;cases e;exact new
 .rw[zam hb]at e;exact (x b u e).stay (λc v _ q=>k c v q) (λc q=>by rw[zam (zaS q hn)];exact q) λc xs q=>by rw[zam (zaS q hn)];exact q
end
noncomputable def Rd(H:Hp)(a:Addr)(u:HO):Prop:=H a=some u∨∃o,H a=some (.frz o u)
theorem Rd.of{H:Hp}{a:Addr}{u:HO}(h:H a=some u):Rd H a u:=.inl h
theorem Rd.ok{P:Am}{w:AB}{H:Hp}{h:Heap}{a:Addr}{u:HO}(r:Rd H a u)(x:HOk P w H h):ObjOk P w H h a u:=by
 rcases r with r |⟨o,r⟩
 .exact x a u r
 .obtain⟨_,q⟩:=x a _ r;exact q
noncomputable def Mut:Option HO->Prop
 |some (.lst _)=>True
 |some (.dK _)=>True
 |some (.dT _)=>True
 |some (.set _ _)=>True
 |some (.ins _ _ _)=>True
 |some (.ext _)=>True
 |_=>False
section
variable {P:Am}{w:AB}{H:Hp}{h h':Heap}{x e:Addr}{o':HO}
theorem HOk.write(ok:HOk P w H h)(mu:Mut (H x))(he:e=x ∨ H e=some (.own x))(k:∀b u, b ≠ e -> h.get? b=some u -> h'.get? b=some u)(heo:∃u, h'.get? e=some u)
  (new:ObjOk P w (upd H x o') h' x o'):HOk P w (upd H x o') h':=λb u q=>by
 have nown:∀c y,H c=some (.own y)->c≠x:=λc y r z=>by subst z;rw[r]at mu;exact mu
 have ntup:∀c xs,H c=some (.tup xs)->c≠x:=λc xs r z=>by subst z;rw[r]at mu;exact mu
 by_cases hb:b=x
 .subst hb;rw[zaa]at q;cases q;exact new
 .rw[zam hb]at q
  by_cases hbe:b=e
  .have q':H b=some (.own x) := by
    rcases he with z |z
    .exact absurd (hbe.trans z) hb
    .rw[hbe];exact z
   rw[q]at q';cases q';obtain⟨v,hv⟩:=heo;exact⟨v,by rw[hbe];exact hv⟩
  .refine (ok b u q).stay (λc v hc r=>k c v ?_ r) (λc r=>by rw[zam (nown c b r)];exact r) λc xs r=>by rw[zam (ntup c xs r)];exact r
   rcases hc with rfl |hc
   .exact hbe
   .rintro rfl;rcases he with z |z
    .exact nown c b hc z
    .rw[hc]at z;cases z;exact hb rfl
end
structure Un (fs ex:List Addr) (H H':Hp) (h h':Heap):Prop where
 keep:∀b o,h.get? b=some o->H b=none->b ∉ fs->b ∉ ex->h'.get? b=some o
 slot:∀b o,h.get? b=some o->H b=none->b∈fs->b ∉ ex->∃sl,h'.get? b=some { o with slots:=sl }
 free:∀b o,h.get? b=some o->H b=none->b ∉ ex->H' b=none
 there:∀b o,h.get? b=some o->b ∉ ex->∃o',h'.get? b=some o'
 tups:∀b xs,H b=some (.tup xs)->H' b=some (.tup xs)
 frzs:∀b o u,H b=some (.frz o u)->H' b=some (.frz o u)
 tbls:∀b ps,H b=some (.tbl ps)->∃more,H' b=some (.tbl (ps++more))
section
variable {fs fs' ex ex':List Addr}{H H1 H2:Hp}{h h1 h2 h':Heap}{a x e:Addr}{o:HO}
theorem Un.any(u:Un fs ex H H1 h h1){b:Addr}{ob:Obj}(q:h.get? b=some ob)(n:H b=none)(hx:b ∉ ex):∃sl,h1.get? b=some { ob with slots:=sl }:=by
 by_cases hb:b∈fs
 .exact u.slot b ob q n hb hx
 .exact⟨ob.slots,u.keep b ob q n hb hx⟩
theorem Un.kept(k:∀b u,h.get? b=some u->h'.get? b=some u):Un fs ex H H h h' :=
 ⟨λb ob q _ _ _=>k b ob q,λb ob q _ _ _=>⟨ob.slots,k b ob q⟩,λ_ _ _ n _=>n,λb ob q _=>⟨ob,k b ob q⟩,λ_ _ q=>q,λ_ _ _ q=>q,λ_ ps q=>⟨#[],by rw[q];simp⟩⟩
theorem Un.refl:Un fs ex H H h h:=Un.kept λ_ _ q=>q
theorem Un.laid(k:∀b u,h.get? b=some u->h'.get? b=some u)(hp:h.objs.size<=a)(hn:H a=none):Un fs ex H (upd H a o) h h' where
 keep:=λb u q _ _ _=>k b u q
 slot:=λb u q _ _ _=>⟨u.slots,k b u q⟩
 free:=λb u q n _=>by rw[zam (AS (AE (Ao q) hp))];exact n
 there:=λb u q _=>⟨u,k b u q⟩
 tups:=λb xs q=>by rw[zam (zaS q hn)];exact q
 frzs:=λb u xs q=>by rw[zam (zaS q hn)];exact q
 tbls:=λb ps q=>⟨#[],by rw[zam (zaS q hn),q];simp⟩
theorem Un.write(mu:Mut (H x))(he:e=x∨H e=some (.own x))(k:∀b u,b≠e->h.get? b=some u->h'.get? b=some u)(heo:∃u,h'.get? e=some u):Un fs ex H (upd H x o) h h':=by
 have hx:∀b,H b=none->b≠x:=λb n z=>by subst z;rw[n]at mu;exact mu
 have hb:∀b,H b=none->b≠e:=λb n z=>by
  subst z;rcases he with r |r
  .exact hx b n r
  .rw[n]at r;cases r
 have hm:∀b u,H b=some u->¬ Mut (some u)->b≠x:=λb u q nm z=>by subst z;rw[q]at mu;exact nm mu
 refine⟨λb u q n _ _=>k b u (hb b n) q,λb u q n _ _=>⟨u.slots,k b u (hb b n) q⟩,λb u q n _=>by rw[zam (hx b n)];exact n,λb u q _=>?_,
  λb xs q=>by rw[zam (hm b _ q λz=>z)];exact q,λb u xs q=>by rw[zam (hm b _ q λz=>z)];exact q,λb ps q=>⟨#[],by rw[zam (hm b _ q λz=>z),q];simp⟩⟩
 by_cases hbe:b=e
 .subst hbe;exact heo
 .exact⟨u,k b u hbe q⟩
end
noncomputable def trk(h:Heap)(H:Hp):List Addr:=(A3 h.objs.size).filter λa=>(H a).isSome
noncomputable def hidT(h:Heap)(H:Hp):Heap:=W.hideAll h (trk h H)
theorem zhd(h:Heap)(H:Hp):(hidT h H).objs.size=h.objs.size:=W.hideAll_size _ _
theorem zh0{h:Heap}{H:Hp}{b:Addr}{o:Obj}(e:h.get? b=some o)(n:H b=none):(hidT h H).get? b=some o :=
 W.hideAll_get _ e λhm=>by have q:(H b).isSome=true:=(List.mem_filter.mp hm).2;rw[n]at q;simp at q
theorem zi9{h:Heap}{H:Hp}{b:Addr}{o:Obj}(e:(hidT h H).get? b=some o):h.get? b=some o/\H b=none:=by
 have e':h.get? b=some o:=W.of_hideAll (trk h H) e;refine⟨e',?_⟩
 cases q:H b with
 |none=>rfl
 |some x =>
  have hm:b∈trk h H:=List.mem_filter.mpr ⟨List.mem_range.mpr (Ao e'),by simp[q]⟩;have z:(hidT h H).get? b=none:=W.hideAll_none (trk h H) hm;rw[z]at e;cases e
noncomputable def zjr(g h:Heap)(L:Addr):List (Addr×Obj):=(A3 h.objs.size).filterMap λa=>if a=L∨(g.get? a).isSome=true then none else (h.get? a).map λo=>(a,o)
noncomputable def rest(g h:Heap)(L d:Addr):List (Addr×Obj):=(zjr g h L).filter λp=>decide (p.1≠d)
structure Mod (K:W.Frag) (mg:Str->Option Value) (base:Heap):Prop where
 kin:K.In base
 glob:base.Ns Au mg
 blt:∃mb,base.Ns builtinsNs mb/\∀x:Str,x ≠ "__name__" -> mb x=bootBuiltins x
 nolimit:base.NoLimit
structure Cx where
 prog:Am
 w:AB
 K:W.Frag
 mg:Str->Option Value
 base:Heap
 A:Aw
 N:List Str
 s₀:Ab
 H₀:Hp
 env:Env
 outer:List Env
 stack:List Env
 ex:List Addr
 fn:Str->Bool
 calm:Bool
 pn:List (Addr×Obj)
 xe:Value->Ab->Prop
noncomputable def frs(l:List Env):List Addr:=l.filterMap (·.frame)
noncomputable abbrev Cx.fs(X:Cx):List Addr:=frs X.outer
noncomputable def Vis(sc:Scope)(x:Str):Prop:=sc.names.lookup x=some .local∨sc.names.lookup x=some .cell∨sc.names.lookup x=some .free
noncomputable def Loc(sc:Scope)(x:Str):Prop:=sc.names.lookup x=some .local∨sc.names.lookup x=some .cell
noncomputable def Look(env:Env)(h:Heap)(m:Str->Option Value)(x:Str)(u:Value):Prop :=
 (env.kindOf x=some .local/\m x=some u)∨((env.kindOf x=some .cell∨env.kindOf x=some .free)/\∃c,env.cells.lookup x=some c/\h.IsCell c (some u))
structure Cx.Ok (X:Cx):Prop where
 mod:Mod X.K X.mg X.base
 kind:X.env.scope.kind=.function
 glob:X.env.globals=Au
 blt:X.env.builtins=builtinsNs
 above:X.s₀.heap.objs.size<=X.env.locals
 inj:∀x y c,X.env.cells.lookup x=some c->X.env.cells.lookup y=some c->x=y
 has:∀x,(X.env.kindOf x=some .cell∨X.env.kindOf x=some .free)->∃c,X.env.cells.lookup x=some c
 cab:∀x c,X.fn x=true->X.env.cells.lookup x=some c->X.s₀.heap.objs.size<=c
 hd:X.calm=true->X.A.handled=none
 frames:X.A.frames=some X.stack
 stk:X.stack=X.outer∨(X.stack=X.env::X.outer/\X.env.frame=some X.env.locals)
 exf:∀b∈X.ex,b≠X.env.locals/\∀x c,X.env.cells.lookup x=some c->c≠b
 bs:∀b o,X.base.get? b=some o->X.s₀.heap.get? b=some o/\X.H₀ b=none
 bsz:X.base.objs.size<=X.s₀.heap.objs.size
 noex:∀b o,X.base.get? b=some o->b ∉ X.ex
 exfs:∀b∈X.ex,b ∉ X.fs
 funs:X.s₀.heap.FunFrames X.base X.outer
 frf:∀b∈X.fs,X.H₀ b=none
structure Inv (X:Cx) (pins:List (Addr×Obj)) (σ:List (Option V)) (H:Hp) (s:Ab):Prop where
 ok:X.Ok
 os:s.os=X.s₀.os
 bare:AllBare s.gens
 base:Un X.fs X.ex X.H₀ H X.s₀.heap s.heap
 loc:∃m,s.heap.Ns X.env.locals m/\∀(i:Nat) (x:Str) (v:V),X.N[i]?=some x->σ[i]?=some (some v)->Vis X.env.scope x->∃u,RelV v u/\Look X.env s.heap m x u
 cell:∀x c,X.env.cells.lookup x=some c->∃v,s.heap.IsCell c v
 free:H X.env.locals=none
 freeC:∀x c,X.env.cells.lookup x=some c->H c=none
 pin:∀p∈X.pn++pins,s.heap.get? p.1=some p.2/\H p.1=none/\p.1≠X.env.locals/\p.1 ∉ X.fs/\∀v,p.2.data≠.cell v
 hok:HOk X.prog X.w H s.heap
 len:σ.length=X.N.length
section
variable {X:Cx}{pins:List (Addr×Obj)}{σ:List (Option V)}{H H':Hp}{s:Ab}{h':Heap}
theorem Cx.Ok.nofr(ok:X.Ok){b:Addr}{o:Obj}(e:X.base.get? b=some o):b ∉ X.fs:=λhb=>by have:=(ok.funs.mem hb).1;rw[e]at this;cases this
theorem Inv.bs(I:Inv X pins σ H s):∀b o,X.base.get? b=some o->s.heap.get? b=some o/\H b=none:=λb o e =>
 ⟨I.base.keep b o (I.ok.bs b o e).1 (I.ok.bs b o e).2 (I.ok.nofr e) (I.ok.noex b o e),I.base.free b o (I.ok.bs b o e).1 (I.ok.bs b o e).2 (I.ok.noex b o e)⟩
theorem Inv.bk(I:Inv X pins σ H s):∀b o,X.base.get? b=some o->s.heap.get? b=some o:=λb o e=>(I.bs b o e).1
theorem Inv.mod(I:Inv X pins σ H s):Mod X.K X.mg X.base:=I.ok.mod
theorem Inv.kIn(I:Inv X pins σ H s):X.K.In s.heap:=I.ok.mod.kin.keeps I.bk
theorem Inv.lt(I:Inv X pins σ H s):X.env.locals<s.heap.objs.size:=let ⟨_,hn,_⟩:=I.loc;hn.lt
theorem Inv.sz(I:Inv X pins σ H s):X.s₀.heap.objs.size<=s.heap.objs.size:=AK I.ok.above (Nat.le_of_lt I.lt)
theorem Inv.nofs(I:Inv X pins σ H s){a:Addr}(h:s.heap.objs.size<=a):a ∉ X.fs:=λhb=>by obtain⟨_,o,ho,_⟩:=I.ok.funs.mem hb;exact absurd (AE (Ao ho) (AK I.sz h)) (Cb _)
theorem Inv.cne(I:Inv X pins σ H s):∀x c,X.env.cells.lookup x=some c->c≠X.env.locals:=λx c e z=>by obtain⟨v,o,ho,hd⟩:=I.cell x c e;obtain⟨m,⟨o',es,ep,ho',hd',_⟩,_⟩:=I.loc;rw[z,ho']at ho;cases ho;rw[hd']at hd;cases hd
theorem Inv.funs(I:Inv X pins σ H s):s.heap.FunFrames X.base X.outer:=by
 have all:∀(l:List Env),(∀b∈frs l,b∈X.fs)->X.s₀.heap.FunFrames X.base l->s.heap.FunFrames X.base l:=by
  intro l
  induction l with
  |nil=>intro _ _;trivial
  |cons env r ih =>
   intro hs hl;obtain⟨hk,⟨L,o,hf,hn,ho,hd⟩,hr⟩:=hl;have hL:L∈X.fs:=hs L (by unfold frs;rw[C7,hf];exact A4);obtain⟨sl,e⟩:=I.base.slot L o ho (I.ok.frf L hL) hL λz=>I.ok.exfs L z hL
   exact⟨hk,⟨L,_,hf,hn,e,hd⟩,ih (λb hb=>hs b (by unfold frs;rw[C7,hf];exact AH _ hb)) hr⟩
 exact all X.outer (λ_ hb=>hb) I.ok.funs
theorem Inv.stack(I:Inv X pins σ H s):s.heap.FunFrames X.base X.stack:=by
 rcases I.ok.stk with e |⟨e,hf⟩
 .rw[e];exact I.funs
 .rw[e];obtain⟨m,hn,_⟩:=I.loc;refine .cons (by rw[I.ok.kind];decide) hf hn ?_ I.funs;exact Heap.get?_none_of_le (AK I.ok.bsz I.ok.above)
theorem Inv.stkSub(I:Inv X pins σ H s):∀b∈frs X.stack,b∈X.env.locals::X.fs:=λb hb=>by
 rcases I.ok.stk with e |⟨e,hf⟩
 .rw[e]at hb;exact AH _ hb
 .rw[e]at hb;unfold frs at hb;rw[C7,hf]at hb;exact hb
theorem Inv.stkFree(I:Inv X pins σ H s):∀b∈frs X.stack,H b=none:=λb hb=>by
 rcases Ax.mp (I.stkSub b hb) with e |hb
 .rw[e];exact I.free
 .obtain⟨_,o,ho,_⟩:=I.ok.funs.mem hb;exact I.base.free b o ho (I.ok.frf b hb) λz=>I.ok.exfs b z hb
theorem Inv.step{g':Array GenState}{t':Nat}{d':Drawn}{ch:List Addr}(I:Inv X pins σ H s)
  (hch:∀b∈ch,(b∈X.ex∨X.s₀.heap.objs.size<=b)/\b≠X.env.locals/\(∀x c,X.env.cells.lookup x=some c->c≠b)/\∀p∈X.pn++pins,p.1≠b)
  (keep:∀b o,b≠X.env.locals->b ∉ X.fs->b ∉ ch->s.heap.get? b=some o->H b=none->h'.get? b=some o)
  (slot:∀b o,b≠X.env.locals->b∈X.fs->b ∉ ch->s.heap.get? b=some o->H b=none->∃sl,h'.get? b=some { o with slots:=sl }) (free:∀b o,b ∉ ch->s.heap.get? b=some o->H b=none->H' b=none)
  (there:∀b o,b ∉ ch->s.heap.get? b=some o->∃o',h'.get? b=some o')
  (tups:∀b xs,H b=some (.tup xs)->H' b=some (.tup xs)) (frzs:∀b o u,H b=some (.frz o u)->H' b=some (.frz o u)) (tbls:∀b ps,H b=some (.tbl ps)->∃more,H' b=some (.tbl (ps++more)))
  (ns:∀m,s.heap.Ns X.env.locals m->h'.Ns X.env.locals m) (hok:HOk X.prog X.w H' h') (hg:AllBare g') :
  Inv X pins σ H' { s with heap:=h',gens:=g',drawn:=d',toks:=t' }:=by
 have neL:∀b o,X.s₀.heap.get? b=some o->b≠X.env.locals:=λb o e=>AS (AE (Ao e) I.ok.above)
 have neC:∀b o,X.s₀.heap.get? b=some o->b ∉ X.ex->b ∉ ch:=λb o e hx hb=>by
  rcases (hch b hb).1 with z |z
  .exact hx z
  .exact absurd (AE (Ao e) z) (Cb _)
 have cellK:∀x c,X.env.cells.lookup x=some c->∀v,s.heap.IsCell c v->h'.IsCell c v:=λx c e v ⟨o,ho,hd⟩=>by
  have nch:c ∉ ch:=λz=>(hch c z).2.2.1 x c e rfl
  by_cases hc:c∈X.fs
  .obtain⟨sl,q⟩:=slot c o (I.cne x c e) hc nch ho (I.freeC x c e);exact⟨_,q,hd⟩
  .exact⟨o,keep c o (I.cne x c e) hc nch ho (I.freeC x c e),hd⟩
 refine⟨I.ok,I.os,hg,⟨λb o e n hb hx=>?_,λb o e n hb hx=>?_,λb o e n hx=>?_,λb o e hx=>?_,λb xs e=>tups b xs (I.base.tups b xs e),λb o xs e=>frzs b o xs (I.base.frzs b o xs e),λb ps e=>?_⟩,?_,λx c e=>?_,?_,λx c e=>?_,λp hp=>?_,hok,I.len⟩
 .exact keep b o (neL b o e) hb (neC b o e hx) (I.base.keep b o e n hb hx) (I.base.free b o e n hx)
 .obtain⟨sl,e1⟩:=I.base.slot b o e n hb hx;obtain⟨sl',e2⟩:=slot b _ (neL b o e) hb (neC b o e hx) e1 (I.base.free b o e n hx);exact⟨sl',e2⟩
 .obtain⟨o',e1⟩:=I.base.there b o e hx;exact free b o' (neC b o e hx) e1 (I.base.free b o e n hx)
 .obtain⟨o',e1⟩:=I.base.there b o e hx;exact there b o' (neC b o e hx) e1
 .obtain⟨m1,e1⟩:=I.base.tbls b ps e;obtain⟨m2,e2⟩:=tbls b _ e1;exact⟨m1++m2,by rw[e2,Array.append_assoc]⟩
 .obtain⟨m,hn,hl⟩:=I.loc;refine⟨m,ns m hn,λi x v e1 e2 e3=>?_⟩;obtain⟨u,r,l⟩:=hl i x v e1 e2 e3;refine⟨u,r,?_⟩;rcases l with l |⟨k,c,e,z⟩
  .exact .inl l
  .exact .inr ⟨k,c,e,cellK x c e _ z⟩
 .obtain⟨v,z⟩:=I.cell x c e;exact⟨v,cellK x c e v z⟩
 .obtain⟨m,⟨o,_,_,ho,_⟩,_⟩:=I.loc;exact free _ o (λz=>(hch _ z).2.1 rfl) ho I.free
 .obtain⟨v,o,ho,hd⟩:=I.cell x c e;exact free c o (λz=>(hch c z).2.2.1 x c e rfl) ho (I.freeC x c e)
 .obtain⟨e,n,ne,nf,d⟩:=I.pin p hp;have nch:p.1 ∉ ch:=λz=>(hch p.1 z).2.2.2 p hp rfl
  exact⟨keep p.1 p.2 ne nf nch e n,free p.1 p.2 nch e n,ne,nf,d⟩
theorem Inv.un{t':Nat}(I:Inv X pins σ H s)(u:Un X.fs [] H H' s.heap h')(hok:HOk X.prog X.w H' h'):Inv X pins σ H' { s with heap:=h',toks:=t' }:=by
 obtain⟨m,⟨o,es,ep,ho,r⟩,_⟩:=id I.loc;obtain⟨sl,hL⟩:=u.any ho I.free (by simp)
 exact I.step (g':=s.gens) (d':=s.drawn) (ch:=[]) (λ_ z=>nomatch z) (λb o _ hb _ e n=>u.keep b o e n hb (by simp)) (λb o _ hb _ e n=>u.slot b o e n hb (by simp)) (λb o _ e n=>u.free b o e n (by simp)) (λb o _ e=>u.there b o e (by simp)) u.tups u.frzs u.tbls (λm' hm=>by obtain⟨o',es',ep',ho',r'⟩:=hm;rw[ho]at ho';cases ho';exact⟨_,es',ep',hL,r'⟩) hok I.bare
theorem Inv.call{g':Array GenState}{t':Nat}{d':Drawn}{ch:List Addr}(I:Inv X pins σ H s)(u:Un (frs X.stack) ch H H' s.heap h')(hok:HOk X.prog X.w H' h')(hg:AllBare g')
  (hch:∀b∈ch,(b∈X.ex∨X.s₀.heap.objs.size<=b)/\b≠X.env.locals/\(∀x c,X.env.cells.lookup x=some c->c≠b)/\∀p∈X.pn++pins,p.1≠b) :
  Inv X pins σ H' { s with heap:=h',gens:=g',drawn:=d',toks:=t' }:=by
 obtain⟨m,⟨o,es,ep,ho,r⟩,_⟩:=id I.loc;obtain⟨sl,hL⟩:=u.any ho I.free λz=>(hch _ z).2.1 rfl
 exact I.step (ch:=ch) hch (λb o hL hb hc e n=>u.keep b o e n (λz=>(Ax.mp (I.stkSub b z)).elim hL hb) hc) (λb o _ _ hc e n=>u.any e n hc) (λb o hc e n=>u.free b o e n hc) (λb o hc e=>u.there b o e hc) u.tups u.frzs u.tbls (λm' hm=>by obtain⟨o',es',ep',ho',r'⟩:=hm;rw[ho]at ho';cases ho';exact⟨_,es',ep',hL,r'⟩) hok hg
theorem Inv.turned{t':Nat}{it:Addr}(I:Inv X pins σ H s)(k:∀b o, b ≠ it -> s.heap.get? b=some o -> h'.get? b=some o)(hn:H it=none)(hL:it ≠ X.env.locals)
  (h1:it∈X.ex∨X.s₀.heap.objs.size<=it) (h2:∀x c,X.env.cells.lookup x=some c->c≠it) (h3:∀p∈X.pn++pins,p.1≠it):Inv X pins σ H { s with heap:=h',toks:=t' }:=by
 have nit:∀b u,H b=some u->b≠it:=λb u e z=>by rw[z,hn]at e;cases e
 refine I.step (g':=s.gens) (d':=s.drawn) (ch:=[it]) (λb hb=>?_) (λb o _ _ hc e _=>k b o (λz=>hc (by simp[z])) e) (λb o _ _ hc e _=>⟨o.slots,k b o (λz=>hc (by simp[z])) e⟩) (λ_ _ _ _ n=>n)
  (λb o hc e=>⟨o,k b o (λz=>hc (by simp[z])) e⟩) (λ_ _ e=>e) (λ_ _ _ e=>e) (λb ps e=>⟨#[],by rw[e];simp⟩) (λm hm=>?_) (λb u e=>?_) I.bare
 .have e:b=it:=by simpa using hb
  subst e;exact⟨h1,hL,h2,h3⟩
 .obtain⟨o,es,ep,ho,r⟩:=hm;exact⟨o,es,ep,k _ o (BJ hL) ho,r⟩
 .refine (I.hok b u e).stay (λc v hc q=>k c v ?_ q) (λ_ q=>q) λ_ _ q=>q
  rcases hc with z |z
  .rw[z];exact nit b u e
  .exact nit c _ z
theorem Inv.tok(I:Inv X pins σ H s)(t:Nat):Inv X pins σ H { s with toks:=t }:=I.un (h':=s.heap) (t':=t) Un.refl I.hok
theorem Inv.kept{t':Nat}(I:Inv X pins σ H s)(k:∀b u,s.heap.get? b=some u->h'.get? b=some u):Inv X pins σ H { s with heap:=h',toks:=t' }:=I.un (Un.kept k) (I.hok.kept k)
theorem Inv.laid{a:Addr}{o:HO}{t':Nat}(I:Inv X pins σ H s)(k:∀b u, s.heap.get? b=some u -> h'.get? b=some u)(hp:s.heap.objs.size <= a)(new:ObjOk X.prog X.w (upd H a o) h' a o) :
  Inv X pins σ (upd H a o) { s with heap:=h',toks:=t' }:=I.un (Un.laid k hp (I.hok.fresh hp)) (I.hok.laid k hp new)
theorem Inv.write{x e:Addr}{o:HO}{t':Nat}(I:Inv X pins σ H s)(mu:Mut (H x))(he:e=x ∨ H e=some (.own x))(k:∀b u, b ≠ e -> s.heap.get? b=some u -> h'.get? b=some u)(heo:∃u, h'.get? e=some u)
  (new:ObjOk X.prog X.w (upd H x o) h' x o):Inv X pins σ (upd H x o) { s with heap:=h',toks:=t' }:=I.un (Un.write mu he k heo) (I.hok.write mu he k heo new)
theorem Inv.pins_of{pins':List (Addr×Obj)}(I:Inv X pins σ H s)(h:∀p∈pins',s.heap.get? p.1=some p.2/\H p.1=none/\p.1≠X.env.locals/\p.1 ∉ X.fs/\∀v,p.2.data≠.cell v):Inv X pins' σ H s :=
 ⟨I.ok,I.os,I.bare,I.base,I.loc,I.cell,I.free,I.freeC,λp hp=>(B0.mp hp).elim (λz=>I.pin p (CT _ z)) (h p),I.hok,I.len⟩
theorem zed{N:List Str}(hN:N.Nodup){i j:Nat}{x:Str}(a:N[i]?=some x)(b:N[j]?=some x):i=j:=by obtain⟨h1,e1⟩:=Aj.mp a;obtain⟨h2,e2⟩:=Aj.mp b;exact (List.getElem_inj hN).mp (e1.trans e2.symm)
theorem zey{M:Db}{A:Aw}{E:Value -> Ab -> Prop}{i:Nat}{x:Str}{v:V}{u:Value}{Q:Unit -> Ab -> Prop}(I:Inv X pins σ H s)(hN:X.N.Nodup)(hi:X.N[i]? = some x)(hx:Loc X.env.scope x)(r:RelV v u)
  (h:∀s',Inv X pins (σ.set i (some v)) H s'->(∃a,BK a s.heap s'.heap/\(a=X.env.locals∨X.env.cells.lookup x=some a))->Q () s') (hf:X.fn x=true∨X.env.scope.names.lookup x=some .local:=by first |exact .inl rfl |exact .inr rfl |assumption):Aq M A (storeName X.env x u) Q E s:=by
 obtain⟨m,hn,hl⟩:=id I.loc;have hcls:(X.env.scope.kind == .class || (X.env.scope.kind == .module && X.env.locals != X.env.globals))=false:=by rw[I.ok.kind];rfl
 have hiσ:i<σ.length:=by rw[I.len];exact (Aj.mp hi).1
 have cne:=I.cne
 have tracked:∀{a:Addr} {h':Heap},(∃o,s.heap.get? a=some o/\H a=none)->BK a s.heap h'->HOk X.prog X.w H h':=λ{a h'} ha hs b ob e=>by
  obtain⟨_,_,hfree⟩:=ha;refine (I.hok b ob e).stay (λc w' hc q=>(hs.2 c ?_).trans q) (λ_ q=>q) λ_ _ q=>q
  rintro rfl;rcases hc with rfl |hc
  .rw[hfree]at e;cases e
  .rw[hfree]at hc;cases hc
 rcases hx with hk |hk
 .refine wpAny_storeName_local hk hn (λh' hn' hs=>?_) hcls;obtain⟨oL,_,_,hoL,_⟩:=id hn;refine h _ ⟨I.ok,I.os,I.bare,⟨λb o e n hb hx=>?_,λb o e n hb hx=>?_,I.base.free,λb o e hx=>?_,I.base.tups,I.base.frzs,I.base.tbls⟩,⟨_,hn',λj y v' e1 e2 e3=>?_⟩,λy c e=>?_,I.free,I.freeC,λp hp=>?_,tracked ⟨oL,hoL,I.free⟩ hs,by simpa using I.len⟩ ⟨_,hs,.inl rfl⟩
  .exact (hs.2 b (AS (AE (Ao e) I.ok.above))).trans (I.base.keep b o e n hb hx)
  .obtain⟨sl,e1⟩:=I.base.slot b o e n hb hx;exact⟨sl,(hs.2 b (AS (AE (Ao e) I.ok.above))).trans e1⟩
  .obtain⟨o',e1⟩:=I.base.there b o e hx;exact⟨o',(hs.2 b (AS (AE (Ao e) I.ok.above))).trans e1⟩
  .by_cases hj:j=i
   .subst hj;rw[hi]at e1;cases e1;rw[List.getElem?_set_self hiσ]at e2
    cases e2
    exact⟨u,r,.inl ⟨hk,by simp⟩⟩
   .rw[List.getElem?_set_ne (BJ hj)]at e2;obtain⟨u',r',q⟩:=hl j y v' e1 e2 e3;refine⟨u',r',?_⟩;rcases q with⟨k,e⟩ |⟨k,c,e,z⟩
    .refine .inl ⟨k,?_⟩;have:y≠x:=λe=>hj (zed hN e1 (e ▸ hi))
     simp[this,e]
    .exact .inr ⟨k,c,e,z.sameBut hs (cne y c e)⟩
  .obtain⟨w',z⟩:=I.cell y c e;exact⟨w',z.sameBut hs (cne y c e)⟩
  .obtain⟨e,n,ne,nf,d⟩:=I.pin p hp;exact⟨(hs.2 p.1 ne).trans e,n,ne,nf,d⟩
 .have hfn:X.fn x=true := by
   rcases hf with z |z
   .exact z
   .rw[z]at hk;cases hk
  obtain⟨c,hc⟩:=I.ok.has x (.inl hk);obtain⟨w',z⟩:=I.cell x c hc;refine wpAny_storeName_cell I.ok.kind hk hc z (λh' hc' hs=>?_);obtain⟨oc,hoc,hocd⟩:=id z;refine h { s with heap:=h' } ⟨I.ok,I.os,I.bare,⟨λb o e n hb hx=>?_,λb o e n hb hx=>?_,I.base.free,λb o e hx=>?_,I.base.tups,I.base.frzs,I.base.tbls⟩,⟨m,hn.sameBut hs (BJ (cne x c hc)),λj y v' e1 e2 e3=>?_⟩,λy c' e=>?_,I.free,I.freeC,λp hp=>?_,tracked ⟨oc,hoc,I.freeC x c hc⟩ hs,by simpa using I.len⟩ ⟨c,hs,.inr hc⟩
  .exact (hs.2 b (AS (AE (Ao e) (I.ok.cab x c hfn hc)))).trans (I.base.keep b o e n hb hx)
  .obtain⟨sl,e1⟩:=I.base.slot b o e n hb hx;exact⟨sl,(hs.2 b (AS (AE (Ao e) (I.ok.cab x c hfn hc)))).trans e1⟩
  .obtain⟨o',e1⟩:=I.base.there b o e hx;exact⟨o',(hs.2 b (AS (AE (Ao e) (I.ok.cab x c hfn hc)))).trans e1⟩
  .by_cases hj:j=i
   .subst hj;rw[hi]at e1;cases e1;rw[List.getElem?_set_self hiσ]at e2
    cases e2
    exact⟨u,r,.inr ⟨.inl hk,c,hc,hc'⟩⟩
   .rw[List.getElem?_set_ne (BJ hj)]at e2;obtain⟨u',r',q⟩:=hl j y v' e1 e2 e3;refine⟨u',r',?_⟩;rcases q with q |⟨k,c',e,z'⟩
    .exact .inl q
    .refine .inr ⟨k,c',e,z'.sameBut hs ?_⟩;rintro rfl;exact hj (zed hN e1 (I.ok.inj _ _ _ e hc ▸ hi))
  .by_cases hcc:c'=c
   .subst hcc;exact⟨_,hc'⟩
   .obtain⟨w2,z2⟩:=I.cell y c' e;exact⟨w2,z2.sameBut hs hcc⟩
  .obtain⟨e,n,ne,nf,d⟩:=I.pin p hp;refine⟨(hs.2 p.1 ?_).trans e,n,ne,nf,d⟩;intro q;rw[q,hoc]at e;have q':oc=p.2:=Bu e;exact d w' (by rw[<- q'];exact hocd)
theorem zc1{M:Db}{A:Aw}{E:Value -> Ab -> Prop}{i:Nat}{x:Str}{v:V}{u:Value}{Q:Unit -> Ab -> Prop}(I:Inv X pins σ H s)(hN:X.N.Nodup)(hi:X.N[i]? = some x)(hx:Loc X.env.scope x)(r:RelV v u)
  (h:∀s',Inv X pins (σ.set i (some v)) H s'->Q () s') (hf:X.fn x=true∨X.env.scope.names.lookup x=some .local:=by first |exact .inl rfl |exact .inr rfl |assumption):Aq M A (storeName X.env x u) Q E s :=
 zey I hN hi hx r (λs' I' _=>h s' I') hf
theorem Inv.call'{s':Ab}{ch:List Addr}(I:Inv X pins σ H s)(ho:s'.os=s.os)(u:Un (frs X.stack) ch H H' s.heap s'.heap)(hok:HOk X.prog X.w H' s'.heap)(hg:AllBare s'.gens)
  (hch:∀b∈ch,(b∈X.ex∨X.s₀.heap.objs.size<=b)/\b≠X.env.locals/\(∀x c,X.env.cells.lookup x=some c->c≠b)/\∀p∈X.pn++pins,p.1≠b):Inv X pins σ H' s':=by
 obtain⟨h',g',d',t',o'⟩:=s';have e:o'=s.os:=ho;subst e;exact I.call (g':=g') (t':=t') (d':=d') u hok hg hch
end
noncomputable abbrev XK:=Value->Option Addr->Hp->Prop
noncomputable abbrev St:=List (Option V)
noncomputable abbrev VK:=V->Hp->Prop
noncomputable abbrev TE:=St->Hp->VK->Prop
noncomputable abbrev TT:=St->Hp->(Bool->Hp->Prop)->Prop
noncomputable abbrev TA:=St->Hp->(List V->Hp->Prop)->Prop
structure Ends where
 nx:St->Hp->Prop
 rt:VK
 bk:St->Hp->Prop:=λ_ _=>False
 ct:St->Hp->Prop:=λ_ _=>False
noncomputable abbrev TS:=Ends->St->Hp->Prop
noncomputable def EP(X:Cx)(pins:List (Addr×Obj))(σ:St)(Q:VK)(u:Value)(s':Ab):Prop:=∃v H',Inv X pins σ H' s'/\RelV v u/\Q v H'
noncomputable def TP(X:Cx)(pins:List (Addr×Obj))(σ:St)(Q:Bool->Hp->Prop)(b:Bool)(s':Ab):Prop:=∃H',Inv X pins σ H' s'/\Q b H'
noncomputable def AP(X:Cx)(pins:List (Addr×Obj))(σ:St)(Q:List V->Hp->Prop)(us:List Value)(s':Ab):Prop:=∃vs H',Inv X pins σ H' s'/\Vals vs us/\Q vs H'
noncomputable def SP(X:Cx)(pins:List (Addr×Obj))(D:Ends)(f:Flow)(s':Ab):Prop :=
 match f with
 |.next=>∃ σ' H',Inv X pins σ' H' s'/\D.nx σ' H'
 |.brk=>∃ σ' H',Inv X pins σ' H' s'/\D.bk σ' H'
 |.cont=>∃ σ' H',Inv X pins σ' H' s'/\D.ct σ' H'
 |.ret u=>∃v σ' H',Inv X pins σ' H' s'/\RelV v u/\D.rt v H'
noncomputable def PE(X:Cx)(e:Expr)(t:TE):Prop :=
 ∀(pins:List (Addr×Obj)) (s:Ab) (σ:St) (H:Hp) (Q:VK),Inv X pins σ H s->t σ H Q->Aq (Ap X.prog X.w) X.A (eval e X.env) (EP X pins σ Q) X.xe s
noncomputable def PT(X:Cx)(e:Expr)(t:TT):Prop :=
 ∀(pins:List (Addr×Obj)) (s:Ab) (σ:St) (H:Hp) (Q:Bool->Hp->Prop),Inv X pins σ H s->t σ H Q->Aq (Ap X.prog X.w) X.A (isTrue e X.env (eval e X.env)) (TP X pins σ Q) X.xe s
noncomputable def PW(X:Cx)(e:Expr)(t:TT):Prop :=
 ∀(whole:Sem Value) (pins:List (Addr×Obj)) (s:Ab) (σ:St) (H:Hp) (Q:Bool->Hp->Prop),Inv X pins σ H s->t σ H Q->Aq (Ap X.prog X.w) X.A (isTrue e X.env whole) (TP X pins σ Q) X.xe s
theorem PW.pt{X:Cx}{e:Expr}{t:TT}(h:PW X e t):PT X e t:=h _
noncomputable def PA(X:Cx)(es:List Expr)(t:TA):Prop :=
 ∀(pos:Pos) (pins:List (Addr×Obj)) (s:Ab) (σ:St) (H:Hp) (Q:List V->Hp->Prop),Inv X pins σ H s->t σ H Q->Aq (Ap X.prog X.w) X.A (spliced (CB pos (AA es X.env))) (AP X pins σ Q) X.xe s
noncomputable def PS(X:Cx)(st:Stmt)(t:TS):Prop :=
 ∀(pins:List (Addr×Obj)) (s:Ab) (σ:St) (H:Hp) (D:Ends),Inv X pins σ H s->t D σ H->Aq (Ap X.prog X.w) X.A (exec st X.env) (SP X pins D) X.xe s
noncomputable def PSs(X:Cx)(st:List Stmt)(t:TS):Prop :=
 ∀(pins:List (Addr×Obj)) (s:Ab) (σ:St) (H:Hp) (D:Ends),Inv X pins σ H s->t D σ H->Aq (Ap X.prog X.w) X.A (execs st X.env) (SP X pins D) X.xe s
theorem thn{α:Type}{t:Sem α}{Q Q':α->Ab->Prop}{M:Db}{A:Aw}{E:Value->Ab->Prop}{s:Ab}(h:Aq M A t Q E s)(hQ:∀a s,Q a s->Q' a s):Aq M A t Q' E s:=BR h hQ λ_ _ x=>x
section
variable {X:Cx}
noncomputable def tVar(i:Nat):TE:=λσ H Q=>∃v,σ[i]?=some (some v)/\Q v H
noncomputable def tC(v:V):TE:=λ_ H Q=>Q v H
theorem zjO {i:Nat}{x:Str}{pos:Pos}(hN:X.N[i]?=some x) (hv:Vis X.env.scope x) (hd:(x == ("__debug__" : Str))=false:=by decide) (hcd:(x == ("__classdict__" : Str))=false:=by decide):PE X (.Name x pos) (tVar i):=by
 intro pins s σ H Q I h;obtain⟨v,e,h⟩:=h;obtain⟨m,hn,hl⟩:=I.loc;obtain⟨u,r,l⟩:=hl i x v hN e hv;have fin:EP X pins σ Q u s:=⟨v,H,I,r,h⟩;rcases l with⟨hk,hm⟩ |⟨hk,c,hc,hcell⟩
 .exact wpAny_Name (wpAny_loadName_local I.ok.kind hk hn hm fin) hd
 .rcases hk with hk |hk
  .exact wpAny_Name (wpAny_loadName_cell I.ok.kind hk hc hcell fin) hd
  .exact wpAny_Name (wpAny_loadName_free I.ok.kind hk hc hcell fin hcd) hd
theorem zad{i j pos}:PE X (.Constant (.int i) j pos) (tC (.int i)):=λ_ _ _ H _ I h=>wpAny_Constant_int ⟨.int i,H,I.tok _,⟨_,rfl⟩,h⟩
theorem pe_bl{b j pos}:PE X (.Constant (.bool b) j pos) (tC (.bl b)):=λ_ _ _ H _ I h=>Constant_bool ⟨.bl b,H,I,rfl,h⟩
theorem zcP{j pos}:PE X (.Constant .none j pos) (tC .non):=λ_ _ _ H _ I h=>Constant_none ⟨.non,H,I,rfl,h⟩
theorem zai{x j pos}:PE X (.Constant (.str x) j pos) (tC (.str x)):=λ_ _ _ H _ I h=>Calls.Constant_str ⟨.str x,H,I.tok _,⟨_,rfl⟩,h⟩
noncomputable def Gl(X:Cx)(x:Str):Prop:=X.env.kindOf x=some .globalImplicit
theorem zcF{E:Value -> Ab -> Prop}{pins:List (Addr × Obj)}{s:Ab}{σ : St}{H:Hp}{x:Str}{u:Value}{pos:Pos}{Q:Value -> Ab -> Prop}(I:Inv X pins σ H s)(hg:Gl X x)(hm:X.mg x=some u)(h:Q u s)
  (hd:(x == ("__debug__" : Str))=false:=by decide):Aq (Ap X.prog X.w) X.A (eval (.Name x pos) X.env) Q E s :=
 Calls.Name_function_global I.ok.kind hg (Calls.loadGlobal_global (by rw[I.ok.glob];exact I.mod.glob.keeps I.bk) hm h) hd
theorem zbW{E:Value -> Ab -> Prop}{pins:List (Addr × Obj)}{s:Ab}{σ : St}{H:Hp}{x:Str}{u:Value}{pos:Pos}{Q:Value -> Ab -> Prop}(I:Inv X pins σ H s)(hg:Gl X x)(hm:X.mg x=none)(hv:bootBuiltins x=some u)(h:Q u s)
  (hn:x ≠ "__name__":=by decide) (hd:(x == ("__debug__" : Str))=false:=by decide):Aq (Ap X.prog X.w) X.A (eval (.Name x pos) X.env) Q E s:=by
 obtain⟨mb,h1,h2⟩:=I.mod.blt;exact Calls.Name_function_global I.ok.kind hg (Calls.loadGlobal_builtin (by rw[I.ok.glob];exact I.mod.glob.keeps I.bk) hm (by rw[I.ok.blt];exact h1.keeps I.bk) ((h2 x hn).trans hv) h) hd
theorem zbD {x:Str}{v:V}{u:Value}{pos:Pos}(hg:Gl X x) (hm:X.mg x=some u) (r:RelV v u) (hd:(x == ("__debug__" : Str))=false:=by decide):PE X (.Name x pos) (tC v) :=
 λ_ _ _ H _ I h=>zcF I hg hm ⟨v,H,I,r,h⟩ hd
theorem zfk {x:Str}{v:V}{u:Value}{pos:Pos}(hg:Gl X x) (hm:X.mg x=none) (hv:bootBuiltins x=some u) (r:RelV v u) (hn:x ≠ "__name__":=by decide) (hd:(x == ("__debug__" : Str))=false:=by decide):PE X (.Name x pos) (tC v) :=
 λ_ _ _ H _ I h=>zbW I hg hm hv ⟨v,H,I,r,h⟩ hn hd
variable {a b:Expr}{ta tb:TE}{pos:Pos}
noncomputable def PC(X:Cx)(op:CmpOp)(a b:Expr)(t:TE):Prop :=
 ∀(pins:List (Addr×Obj)) (s:Ab) (σ:St) (H:Hp) (Q:VK),Inv X pins σ H s->t σ H Q ->
  Aq (Ap X.prog X.w) X.A (eval a X.env) (λv s₁=>Aq (Ap X.prog X.w) X.A (eval b X.env) (λu s₂=>Aq (Ap X.prog X.w) X.A (Bp op v u) (EP X pins σ Q) X.xe s₂) X.xe s₁) X.xe s
noncomputable def tB(t:TE):TT:=λσ H Q=>t σ H λx H1=>∃c,x=.bl c/\Q c H1
theorem zjP{op:CmpOp}{t:TE}(h:PC X op a b t)(h1:Dc op b=false:=by first |exact nobehind _ (by decide) (by decide) |rfl):PE X (.Compare a [op] [b] pos) t:=λpins s σ H Q I hw=>wpAny_Compare1 (h pins s σ H Q I hw) h1
theorem zjK{op:CmpOp}{t:TE}(h:PC X op a b t)(h1:Dc op b=false:=by first |exact nobehind _ (by decide) (by decide) |rfl):PT X (.Compare a [op] [b] pos) (tB t):=by
 intro pins s σ H Q I hw;refine wpAny_isTrue_Compare1 (thn (h pins s σ H _ I hw) λv s1 h1=>thn h1 λu s2 h2=>thn h2 λc s3 ⟨x,H1,I1,r1,q1⟩=>?_) h1;obtain⟨d,rfl,q⟩:=q1
 cases r1
 exact Bk ⟨H1,I1,q⟩
theorem zdb{e:Expr}{t:TE}(h:PE X e t)(he:∀whole,isTrue e X.env whole=(do let v <- whole;standAt e.pos;holding [v] (truthy v)):=by intro _;rfl):PT X e (tB t):=by
 intro pins s σ H Q I hw;refine isTrue_plain (thn (h pins s σ H _ I hw) λv s1 ⟨x,H1,I1,r1,q1⟩=>?_) (he _);obtain⟨d,rfl,q⟩:=q1
 cases r1
 exact Bk ⟨H1,I1,q⟩
variable {tA tB':TT}{rest:List Expr}
noncomputable def tAnd(t u:TT):TT:=λσ H Q=>t σ H λc H1=>if c=true then u σ H1 Q else Q false H1
noncomputable def tOr(t u:TT):TT:=λσ H Q=>t σ H λc H1=>if c=true then Q true H1 else u σ H1 Q
noncomputable def tNot(t:TT):TT:=λσ H Q=>t σ H λc H1=>Q (!c) H1
theorem ziX(ha:PT X a tA):PW X (.BoolOp .And [a] pos) tA:=by
 intro wh pins s σ H Q I h;refine isTrue_and (thn (ha pins s σ H Q I h) λc s1 e=>?_)
 cases c with
 |true=>exact isTrue_and_nil e
 |false=>exact e
theorem zcq(ha:PT X a tA):PW X (.BoolOp .Or [a] pos) tA:=by
 intro wh pins s σ H Q I h;refine isTrue_or (thn (ha pins s σ H Q I h) λc s1 e=>?_)
 cases c with
 |false=>exact isTrue_or_nil e
 |true=>exact e
theorem zjJ(ha:PT X a tA)(hb:PW X (.BoolOp .And (b::rest) pos) tB'):PW X (.BoolOp .And (a::b::rest) pos) (tAnd tA tB'):=by
 intro wh pins s σ H Q I h;refine isTrue_and (thn (ha pins s σ H _ I h) λc s1 ⟨H1,I1,q1⟩=>?_)
 cases c with
 |true=>exact hb wh pins s1 σ H1 Q I1 q1
 |false=>exact⟨H1,I1,q1⟩
theorem pw_or(ha:PT X a tA)(hb:PW X (.BoolOp .Or (b::rest) pos) tB'):PW X (.BoolOp .Or (a::b::rest) pos) (tOr tA tB'):=by
 intro wh pins s σ H Q I h;refine isTrue_or (thn (ha pins s σ H _ I h) λc s1 ⟨H1,I1,q1⟩=>?_)
 cases c with
 |true=>exact⟨H1,I1,q1⟩
 |false=>exact hb wh pins s1 σ H1 Q I1 q1
theorem zcr(ha:PT X a tA):PT X (.UnaryOp .Not a pos) (tNot tA):=by intro pins s σ H Q I h;exact isTrue_not (ha pins s σ H (λc H1=>Q (!c) H1) I h)
noncomputable def tAndV(ta tb:TE):TE:=λσ H Q=>ta σ H λx H1=>∃c,x=.bl c/\if c=true then tb σ H1 Q else Q (.bl false) H1
noncomputable def tOrV(ta tb:TE):TE:=λσ H Q=>ta σ H λx H1=>∃c,x=.bl c/\if c=true then Q (.bl true) H1 else tb σ H1 Q
noncomputable def tNotV(ta:TE):TE:=λσ H Q=>ta σ H λx H1=>∃c,x=.bl c/\Q (.bl (!c)) H1
theorem zdL{op}{t:TE}(h:PE X a t):PE X (.BoolOp op [a] pos) t:=λpins s σ H Q I hw=>BoolOp_one (h pins s σ H Q I hw)
theorem zdd(ha:PE X a ta)(hb:PE X (.BoolOp .And (b::rest) pos) tb):PE X (.BoolOp .And (a::b::rest) pos) (tAndV ta tb):=by
 intro pins s σ H Q I h;refine BoolOp_and (thn (ha pins s σ H _ I h) λv s1 ⟨x,H1,I1,r1,q1⟩=>?_);obtain⟨c,rfl,q1⟩:=q1
 cases r1
 refine Bk ?_
 cases c with
 |true=>exact hb pins s1 σ H1 Q I1 q1
 |false=>exact⟨.bl false,H1,I1,rfl,q1⟩
theorem pe_or(ha:PE X a ta)(hb:PE X (.BoolOp .Or (b::rest) pos) tb):PE X (.BoolOp .Or (a::b::rest) pos) (tOrV ta tb):=by
 intro pins s σ H Q I h;refine BoolOp_or (thn (ha pins s σ H _ I h) λv s1 ⟨x,H1,I1,r1,q1⟩=>?_);obtain⟨c,rfl,q1⟩:=q1
 cases r1
 refine Bk ?_
 cases c with
 |false=>exact hb pins s1 σ H1 Q I1 q1
 |true=>exact⟨.bl true,H1,I1,rfl,q1⟩
theorem zio(ha:PE X a ta):PE X (.UnaryOp .Not a pos) (tNotV ta):=by
 intro pins s σ H Q I h;refine UnaryOp_ (thn (ha pins s σ H _ I h) λv s1 ⟨x,H1,I1,r1,q1⟩=>?_);obtain⟨c,rfl,q1⟩:=q1
 cases r1
 exact not_of (Bk ⟨.bl (!c),H1,I1,rfl,q1⟩)
noncomputable def tIf(t:TT)(ta tb:TE):TE:=λσ H Q=>t σ H λc H1=>if c=true then ta σ H1 Q else tb σ H1 Q
theorem zd4{c:Expr}(hc:PT X c tA)(ha:PE X a ta)(hb:PE X b tb):PE X (.IfExp c a b pos) (tIf tA ta tb):=by
 intro pins s σ H Q I h;refine wpAny_IfExp (thn (hc pins s σ H _ I h) λd s1 ⟨H1,I1,q1⟩=>?_)
 cases d with
 |true=>exact ha pins s1 σ H1 Q I1 q1
 |false=>exact hb pins s1 σ H1 Q I1 q1
end
noncomputable def SqL(K:W.Frag)(H:Hp)(a:Addr)(xs:List V):Prop :=
 Rd H a (.lst xs) ∨
  ∃(o:Obj) (its:Array Value) (n:Nat),K.lookup a=some o/\o.cls=.type "list" /\ o.dict=none/\o.data=.seq its n/\its.size<=sizeLine/\Vals xs its.toList
noncomputable def SqT(K:W.Frag)(H:Hp)(a:Addr)(xs:List V):Prop :=
 Rd H a (.tup xs) ∨
  ∃(o:Obj) (its:Array Value) (n:Nat),K.lookup a=some o/\o.cls=.type "tuple" /\ o.data=.seq its n/\its.size<=sizeLine/\Vals xs its.toList
noncomputable def absV:Value->Option V
 |.none=>some .non
 |.bool b=>some (.bl b)
 |.int i _=>some (.int i)
 |.str x _=>some (.str x)
 |.bytes b _=>some (.byt b)
 |.float b _=>some (.flt b)
 |.ref a=>some (.ref a)
 |.type n=>some (.ty n)
 |_=>none
theorem RelV.abs{x:V}{u:Value}(r:RelV x u):absV u=some x:=by
 cases x with
 |non=>cases r;rfl
 |bl _=>cases r;rfl
 |int _=>obtain⟨t,rfl⟩:=r;rfl
 |str _=>obtain⟨t,rfl⟩:=r;rfl
 |byt _=>obtain⟨t,rfl⟩:=r;rfl
 |flt _=>obtain⟨t,rfl⟩:=r;rfl
 |ref _=>cases r;rfl
 |ty _=>cases r;rfl
theorem RelV.inj{x y:V}{u:Value}(r:RelV x u)(q:RelV y u):x=y:=Bu (r.abs.symm.trans q.abs)
theorem Vals.inj:∀{xs ys:List V}{us:List Value},Vals xs us->Vals ys us->xs=ys
 |_,_,_,.nil,.nil=>rfl
 |_,_,_,.cons r t,.cons r' t'=>by rw[r.inj r',Vals.inj t t']
section
variable {X:Cx}{pins:List (Addr×Obj)}{σ:St}{H:Hp}{s:Ab}{a:Addr}{xs ys:List V}
theorem SqL.of{K:W.Frag}(h:H a=some (.lst xs)):SqL K H a xs:=.inl (.inl h)
theorem SqT.of{K:W.Frag}(h:H a=some (.tup xs)):SqT K H a xs:=.inl (.inl h)
theorem Inv.list(I:Inv X pins σ H s)(h:SqL X.K H a xs):∃its:List Value,Vals xs its/\PlainL s.heap a its.toArray/\xs.length<=sizeLine:=by
 rcases h with h |⟨o,its,n,hk,hc,hd,hs,hz,r⟩
 .obtain⟨z,its,n,r,e⟩:=h.ok I.hok;exact⟨its,r,⟨_,n,e,rfl,rfl,rfl⟩,z⟩
 .refine⟨its.toList,r,⟨o,n,I.kIn a o hk,hc,hd,by simpa using hs⟩,?_⟩;have e:=r.length;simp only[Cs]at e;lia
theorem Inv.tuple(I:Inv X pins σ H s)(h:SqT X.K H a xs):∃its:List Value,Vals xs its/\IsTup s.heap a its.toArray/\xs.length<=sizeLine:=by
 rcases h with h |⟨o,its,n,hk,hc,hs,hz,r⟩
 .obtain⟨z,its,r,p⟩:=h.ok I.hok;exact⟨its,r,p,z⟩
 .refine⟨its.toList,r,⟨o,I.kIn a o hk,hc,n,by simpa using hs⟩,?_⟩;have e:=r.length;simp only[Cs]at e;lia
theorem Inv.list_inj(I:Inv X pins σ H s)(h:SqL X.K H a xs)(h':SqL X.K H a ys):xs=ys:=by
 obtain⟨its,r,⟨o,n,e,_,_,d⟩,_⟩:=I.list h;obtain⟨its',r',⟨o',n',e',_,_,d'⟩,_⟩:=I.list h';rw[e]at e';cases e';rw[d]at d';injection d' with d1 _;have:its=its':=by simpa using congrArg Array.toList d1
 subst this;exact r.inj r'
theorem Inv.tuple_inj(I:Inv X pins σ H s)(h:SqT X.K H a xs)(h':SqT X.K H a ys):xs=ys:=by
 obtain⟨its,r,⟨o,e,_,n,d⟩,_⟩:=I.tuple h;obtain⟨its',r',⟨o',e',_,n',d'⟩,_⟩:=I.tuple h';rw[e]at e';cases e';rw[d]at d';injection d' with d1 _;have:its=its':=by simpa using congrArg Array.toList d1
 subst this;exact r.inj r'
end
noncomputable abbrev Cx.wish(X:Cx)(E:Value->Ab->Prop):Cx:={ X with xe:=E }
noncomputable abbrev Cx.nox(X:Cx):Cx:=X.wish λ_ _=>False
theorem Cx.Ok.wish{X:Cx}(ok:X.Ok)(E:Value->Ab->Prop):(X.wish E).Ok :=
 ⟨ok.mod,ok.kind,ok.glob,ok.blt,ok.above,ok.inj,ok.has,ok.cab,ok.hd,ok.frames,ok.stk,ok.exf,ok.bs,ok.bsz,ok.noex,ok.exfs,ok.funs,ok.frf⟩
theorem Cx.Ok.unwish{X:Cx}{E:Value->Ab->Prop}(ok:(X.wish E).Ok):X.Ok :=
 ⟨ok.mod,ok.kind,ok.glob,ok.blt,ok.above,ok.inj,ok.has,ok.cab,ok.hd,ok.frames,ok.stk,ok.exf,ok.bs,ok.bsz,ok.noex,ok.exfs,ok.funs,ok.frf⟩
section
variable {X:Cx}{pins:List (Addr×Obj)}{σ:St}{H:Hp}{s:Ab}{E:Value->Ab->Prop}
theorem Inv.wish(I:Inv X pins σ H s)(E:Value->Ab->Prop):Inv (X.wish E) pins σ H s:=⟨I.ok.wish E,I.os,I.bare,I.base,I.loc,I.cell,I.free,I.freeC,I.pin,I.hok,I.len⟩
theorem Inv.unwish(I:Inv (X.wish E) pins σ H s):Inv X pins σ H s:=⟨I.ok.unwish,I.os,I.bare,I.base,I.loc,I.cell,I.free,I.freeC,I.pin,I.hok,I.len⟩
theorem SP.unwish{D:Ends}{f:Flow}{s':Ab}(h:SP (X.wish E) pins D f s'):SP X pins D f s':=by
 cases f with
 |next=>obtain⟨σ',H',I,q⟩:=h;exact⟨σ',H',I.unwish,q⟩
 |brk=>obtain⟨σ',H',I,q⟩:=h;exact⟨σ',H',I.unwish,q⟩
 |cont=>obtain⟨σ',H',I,q⟩:=h;exact⟨σ',H',I.unwish,q⟩
 |ret u=>obtain⟨v,σ',H',I,r,q⟩:=h;exact⟨v,σ',H',I.unwish,r,q⟩
theorem PT.nox{e:Expr}{t:TT}(h:PT X.nox e t):PT X e t:=λpins s σ H Q I hw =>
 BR (h pins s σ H Q (I.wish _) hw) (λ_ _ ⟨H',I',q⟩=>⟨H',I'.unwish,q⟩) λ_ _ z=>Bj z
theorem PSs.nox{st:List Stmt}{t:TS}(h:PSs X.nox st t):PSs X st t:=λpins s σ H D I hw =>
 BR (h pins s σ H D (I.wish _) hw) (λ_ _ q=>q.unwish) λ_ _ z=>Bj z
end
section
variable {X:Cx}{st:Stmt}{rest:List Stmt}{t u:TS}{e:Expr}{te:TE}{pos:Pos}
noncomputable def tNext:TS:=λD σ H=>D.nx σ H
noncomputable def tSeq(t u:TS):TS:=λD σ H=>t { D with nx:=u D } σ H
theorem zaH:PSs X [] tNext:=λ_ _ σ H _ I h=>wpAny_execs_nil ⟨σ,H,I,h⟩
theorem zac(h1:PS X st t)(h2:PSs X rest u):PSs X (st::rest) (tSeq t u):=by
 intro pins s σ H D I h;refine wpAny_execs_cons (thn (h1 pins s σ H { D with nx:=u D } I h) λf s1 q=>?_)
 cases f with
 |next =>
  obtain⟨σ',H',I',q⟩:=q;exact h2 pins s1 σ' H' D I' q
 |ret v=>exact q
 |brk=>exact q
 |cont=>exact q
theorem zag(h1:PS X st t):PSs X [st] t:=by
 intro pins s σ H D I h;refine wpAny_execs_cons (thn (h1 pins s σ H D I h) λf s1 q=>?_)
 cases f with
 |next=>exact wpAny_execs_nil q
 |ret v=>exact q
 |brk=>exact q
 |cont=>exact q
theorem Inv.quiet{pins:List (Addr×Obj)}{σ:St}{H:Hp}{s:Ab}(I:Inv X pins σ H s):interactive X.env=false:=by simp[interactive,I.ok.kind]
noncomputable def tDrop(te:TE):TS:=λD σ H=>te σ H λ_ H1=>D.nx σ H1
theorem za9(he:PE X e te)(hs:swapsWith e none pos.line X.env=pure false:=by rfl):PS X (.Expr e pos) (tDrop te):=by intro pins s σ H D I h;exact wpAny_Expr_any (thn (he pins s σ H _ I h) λv s1 ⟨x,H1,I1,r1,q1⟩=>⟨σ,H1,I1,q1⟩) I.quiet hs
noncomputable def tRet(te:TE):TS:=λD σ H=>te σ H D.rt
theorem zay(he:PE X e te):PS X (.Return (some e) pos) (tRet te):=by intro pins s σ H D I h;exact wpAny_Return_some (thn (he pins s σ H _ I h) λv s1 ⟨x,H1,I1,r1,q1⟩=>⟨x,σ,H1,I1,r1,q1⟩)
noncomputable def tIfS(c:TT)(t u:TS):TS:=λD σ H=>c σ H λb H1=>if b=true then t D σ H1 else u D σ H1
theorem ps_if{c:Expr}{a b:List Stmt}{tc:TT}(hc:PT X c tc)(ha:PSs X a t)(hb:PSs X b u):PS X (.If c a b pos) (tIfS tc t u):=by
 intro pins s σ H D I h;refine wpAny_If (thn (hc pins s σ H _ I h) λd s1 ⟨H1,I1,q1⟩=>?_)
 cases d with
 |true=>exact ha pins s1 σ H1 D I1 q1
 |false=>exact hb pins s1 σ H1 D I1 q1
noncomputable def zjA:TS:=λ_ _ _=>False
theorem zhN:PS X st zjA:=λ_ _ _ _ _ _ h=>h.elim
end
noncomputable abbrev TG:=V->St->Hp->(St->Hp->Prop)->Prop
noncomputable abbrev TGs:=List V->St->Hp->(St->Hp->Prop)->Prop
noncomputable def PG(X:Cx)(target:Expr)(t:TG):Prop :=
 ∀(pins:List (Addr×Obj)) (s:Ab) (σ:St) (H:Hp) (v:V) (u:Value) (Q:St->Hp->Prop),Inv X pins σ H s->RelV v u->t v σ H Q ->
  Aq (Ap X.prog X.w) X.A (assign target X.env u) (λ_ s'=>∃ σ' H',Inv X pins σ' H' s'/\Q σ' H') X.xe s
noncomputable def PGs(X:Cx)(ts:List Expr)(t:TGs):Prop :=
 ∀(pins:List (Addr×Obj)) (s:Ab) (σ:St) (H:Hp) (vs:List V) (us:List Value) (Q:St->Hp->Prop),Inv X pins σ H s->Vals vs us->t vs σ H Q ->
  Aq (Ap X.prog X.w) X.A (assignInOrder ((B2 ts X.env).map (·.2)) us) (λ_ s'=>∃ σ' H',Inv X pins σ' H' s'/\Q σ' H') X.xe s
noncomputable abbrev TIp:=V->V->Hp->VK->Prop
noncomputable def PIp(X:Cx)(op:Operator)(t:TIp):Prop :=
 ∀(pins:List (Addr×Obj)) (s:Ab) (σ:St) (H:Hp) (x y:V) (v u:Value) (Q:VK),Inv X pins σ H s->RelV x v->RelV y u->t x y H Q ->
  Aq (Ap X.prog X.w) X.A (inplaceOp op v u) (EP X pins σ Q) X.xe s
section
variable {X:Cx}{pos:Pos}
noncomputable def gName(i:Nat):TG:=λv σ H Q=>Q (σ.set i (some v)) H
theorem zba{i:Nat}{x:Str}(hN:X.N.Nodup)(hi:X.N[i]?=some x)(hx:Loc X.env.scope x)(hf:X.fn x=true∨X.env.scope.names.lookup x=some .local:=by first |exact .inl rfl |exact .inr rfl |assumption):PG X (.Name x pos) (gName i):=by intro pins s σ H v u Q I r h;exact wpAny_assign_Name (zc1 I hN hi hx r (λs' I'=>⟨_,H,I',h⟩) hf)
noncomputable def gNil:TGs:=λvs σ H Q=>vs=[]/\Q σ H
noncomputable def gCons(t:TG)(u:TGs):TGs:=λvs σ H Q=>∃v r,vs=v::r/\t v σ H λσ' H'=>u r σ' H' Q
theorem zbN:PGs X [] gNil:=by
 intro pins s σ H vs us Q I r h;obtain⟨e,h⟩:=h;subst e
 cases r
 exact assignInOrder_nil ⟨σ,H,I,h⟩
theorem zaq{e:Expr}{es:List Expr}{t:TG}{u:TGs}(h1:PG X e t)(h2:PGs X es u)
  (hs:(B2 (e::es) X.env).map (·.2)=assign e X.env::(B2 es X.env).map (·.2):=by rfl):PGs X (e::es) (gCons t u):=by
 intro pins s σ H vs us Q I r h;obtain⟨v,vr,e1,h⟩:=h;subst e1
 cases r with
 |cons r rr =>
  rw[hs];refine assignInOrder_cons (thn (h1 pins s σ H _ _ _ I r h) λ_ s1 ⟨σ1,H1,I1,q1⟩=>?_);exact h2 pins s1 σ1 H1 _ _ Q I1 rr q1
noncomputable def gTup(K:W.Frag)(n:Nat)(t:TGs):TG:=λv σ H Q=>∃a xs,v=.ref a/\SqT K H a xs/\xs.length=n/\t xs σ H Q
theorem zfK{es:List Expr}{k:Nat}{t:TGs}{n:Nat}(hc:X.calm=true)(h:PGs X es t)
  (hn:(B2 es X.env).length=n:=by rfl) (hst:(B2 es X.env).findIdx? (·.1)=none:=by rfl):PG X (.Tuple es k pos) (gTup X.K n t):=by
 intro pins s σ H v u Q I r hw;obtain⟨a,xs,e1,hq,hl,hw⟩:=hw;subst e1
 cases r
 obtain⟨its,rv,ht,hz⟩:=I.tuple hq;refine assign_Tuple_tuple (I.ok.hd hc) ht (by simp[hn,<- hl,rv.length]) hst λh' hx=>?_
 have I1:Inv X pins σ H { s with heap:=h' }:=I.kept (t':=s.toks) λb o e=>hx b o (AS (Ao e)) e
 exact h pins _ σ H xs _ Q I1 (by simpa using rv) hw
noncomputable def tAsg(te:TE)(g:TG):TS:=λD σ H=>te σ H λx H1=>g x σ H1 D.nx
theorem zeI{tg e:Expr}{te:TE}{g:TG}(he:PE X e te)(hg:PG X tg g)(hs:swapsWithSole [tg] e pos.line X.env=pure false := by rfl)(hw:swappedStores [tg] e X.env=pure none := by rfl)
  (h1:(B2 [tg] X.env).map (·.2)=[assign tg X.env]:=by rfl):PS X (.Assign [tg] e pos) (tAsg te g):=by
 intro pins s σ H D I h;refine wpAny_Assign_stores (thn (he pins s σ H _ I h) λv s1 ⟨x,H1,I1,r1,q1⟩=>?_) hs hw;rw[h1];exact thn (hg pins s1 σ H1 x v _ I1 r1 q1) λ_ s2 q=>q
theorem zdK{i:Nat}{x:Str}{e:Expr}{te:TE}{pos':Pos}(hN:X.N.Nodup)(hi:X.N[i]? = some x)(hx:Loc X.env.scope x)(he:PE X e te)(hs:swapsWith e (some (.Name x pos')) pos.line X.env=pure false := by rfl)(hf:X.fn x=true ∨ X.env.scope.names.lookup x=some .local := by first |exact .inl rfl |exact .inr rfl |assumption) :
  PS X (.Assign [.Name x pos'] e pos) (tAsg te (gName i)):=by
 intro pins s σ H D I h;refine wpAny_Assign_Name (thn (he pins s σ H _ I h) λv s1 ⟨y,H1,I1,r1,q1⟩=>?_) hs;exact zc1 I1 hN hi hx r1 (λs2 I2=>⟨_,H1,I2,q1⟩) hf
noncomputable def tAug(i:Nat)(te:TE)(ti:TIp):TS:=λD σ H=>∃x,σ[i]?=some (some x)/\te σ H λy H1=>ti x y H1 λz H2=>D.nx (σ.set i (some z)) H2
theorem zjL{i:Nat}{x:Str}{e:Expr}{te:TE}{op:Operator}{ti:TIp}{pos':Pos}(hN:X.N.Nodup)(hi:X.N[i]? = some x)(hx:Loc X.env.scope x)(he:PE X e te)(ho:PIp X op ti)(hf:X.fn x=true ∨ X.env.scope.names.lookup x=some .local := by first |exact .inl rfl |exact .inr rfl |assumption) :
  PS X (.AugAssign (.Name x pos') op e pos) (tAug i te ti):=by
 intro pins s σ H D I h;obtain⟨v,e1,h⟩:=h;obtain⟨m,hn,hl⟩:=I.loc;have vis:Vis X.env.scope x:=by rcases hx with k |k;exact .inl k;exact .inr (.inl k)
 obtain⟨u,r,l⟩:=hl i x v hi e1 vis;refine wpAny_AugAssign_Name ?_
 have go:Aq (Ap X.prog X.w) X.A (eval e X.env) (λw s₂=>Aq (Ap X.prog X.w) X.A (inplaceOp op u w) (λr s₃=>Aq (Ap X.prog X.w) X.A (storeName X.env x r) (λ_=>SP X pins D .next) X.xe s₃) X.xe s₂) X.xe s:=by
  refine thn (he pins s σ H _ I h) λw s1 ⟨y,H1,I1,r1,q1⟩=>?_
  refine thn (ho pins s1 σ H1 v y u w _ I1 r r1 q1) λz s2 ⟨zv,H2,I2,r2,q2⟩=>?_
  exact zc1 I2 hN hi hx r2 (λs3 I3=>⟨_,H2,I3,q2⟩) hf
 rcases l with⟨hk,hm⟩ |⟨hk,c,hc,hcell⟩
 .exact wpAny_loadName_local I.ok.kind hk hn hm go
 .rcases hk with hk |hk
  .exact wpAny_loadName_cell I.ok.kind hk hc hcell go
  .rcases hx with k |k
   .have:X.env.scope.names.lookup x=some .free:=hk;rw[k]at this;cases this
   .have:X.env.scope.names.lookup x=some .free:=hk;rw[k]at this;cases this
noncomputable def ipI(f:Int->Int->Int):TIp:=λx y H Q=>∃i j,x=.int i/\y=.int j/\Q (.int (f i j)) H
theorem zjX:PIp X .Add (ipI λi j=>i+j):=by intro pins s σ H x y v u Q I r1 r2 h;obtain⟨i,j,e1,e2,q⟩:=h;subst e1;subst e2;obtain⟨t,rfl⟩:=r1;obtain⟨t',rfl⟩:=r2;exact iadd_int ⟨.int _,H,I.tok _,⟨_,rfl⟩,q⟩
end
section
variable {X:Cx}{pos:Pos}
end
structure It where
 go:Nat->Hp->Prop
 yld:Nat->Hp->V->Hp->Prop
 stop:Nat->Hp->Prop
noncomputable def FpOk(X:Cx)(pins:List (Addr×Obj))(H:Hp)(b:Addr):Prop :=
 H b=none/\b≠X.env.locals/\b ∉ X.fs/\(b∈X.ex∨X.s₀.heap.objs.size<=b)/\(∀x c,X.env.cells.lookup x=some c->c≠b)/\∀p∈X.pn++pins,p.1≠b
theorem Inv.fpOk{X:Cx}{pins:List (Addr×Obj)}{σ:St}{H H':Hp}{s:Ab}{b:Addr}(I:Inv X pins σ H s)(hb:s.heap.objs.size<=b)(hn:H' b=none):FpOk X pins H' b:=by
 refine⟨hn,Nat.ne_of_gt (AE I.lt hb),I.nofs hb,.inr (AK I.sz hb),λx c e z=>?_,λp hp z=>?_⟩
 .obtain⟨v,q⟩:=I.cell x c e;exact absurd (AE q.lt (by rw[z];exact hb)) (Cb _)
 .exact absurd (AE (Ao (I.pin p hp).1) (by rw[z];exact hb)) (Cb _)
structure Turn (P:Am) (w:AB) (K:W.Frag) (tg:Expr) (J:It) (fp:List Addr) (it:Addr) (tn:Nat->Heap->Prop):Prop where
 mem:it∈fp
 obj:∀i h,tn i h->∀b∈fp,∃o,h.get? b=some o/\∀v,o.data≠.cell v
 keep:∀i h h',tn i h->(∀b∈fp,∀o,h.get? b=some o->h'.get? b=some o)->tn i h'
 item:∀(X:Cx),X.prog=P->X.w=w->X.K=K->X.calm=true->∀(i:Nat) (pins:List (Addr×Obj)) (s:Ab) (σ:St) (H:Hp) (E:Value->Ab->Prop),Inv X pins σ H s->(∀b∈fp,FpOk X pins H b)->tn i s.heap->J.go i H ->
  Aq (Ap P w) X.A (pyNext (.ref it)) (λr s1=>∃u,r=some u /\
   Aq (Ap P w) X.A (CI tg (.ref it) u) (λ_ s2=>∃x H',Inv X pins σ H' s2/\RelV x u/\J.yld i H x H'/\tn (i+1) s2.heap/\∀b∈fp,H' b=none) E s1) E s
 done:∀(X:Cx),X.prog=P->X.w=w->X.K=K->X.calm=true->∀(i:Nat) (pins:List (Addr×Obj)) (s:Ab) (σ:St) (H:Hp) (E:Value->Ab->Prop),Inv X pins σ H s->(∀b∈fp,FpOk X pins H b)->tn i s.heap->J.stop i H ->
  Aq (Ap P w) X.A (pyNext (.ref it)) (λr s1=>r=none/\Inv X pins σ H s1) E s
 self:∀(A:Aw) (i:Nat) (s:Ab) (Q:Value->Ab->Prop) (E:Value->Ab->Prop),tn i s.heap->Q (.ref it) s->Aq (Ap P w) A (pyIter (.ref it)) Q E s
noncomputable abbrev TI:=St->Hp->(It->Hp->Prop)->Prop
noncomputable def PIE(X:Cx)(pins:List (Addr×Obj))(σ:St)(tg:Expr)(R:It->Hp->Prop)(itv:Value)(s2:Ab):Prop :=
 ∃(it:Addr) (fp:List Addr) (tn:Nat->Heap->Prop) (J:It) (H':Hp),itv=.ref it/\Inv X pins σ H' s2/\Turn X.prog X.w X.K tg J fp it tn/\tn 0 s2.heap/\(∀b∈fp,FpOk X pins H' b)/\R J H'
noncomputable def PI(X:Cx)(tg iter:Expr)(wi:TI):Prop :=
 ∀(pins:List (Addr×Obj)) (s:Ab) (σ:St) (H:Hp) (R:It->Hp->Prop),Inv X pins σ H s->wi σ H R ->
  Aq (Ap X.prog X.w) X.A (eval iter X.env) (λv s1=>Aq (Ap X.prog X.w) X.A (pyIter v) (PIE X pins σ tg R) X.xe s1) X.xe s
theorem go_of {M : Db}{A : Aw}{E : Value → Ab → Prop}{s : Ab}{tg : Expr}{it : Addr}{u : Value}{o : Obj}{n : String}{vs : Array Value}{Q : Unit → Ab → Prop}(ho : s.heap.get? it = some o) (hc : o.cls = .type n) (hd : o.data = .fields vs)
    (hn:["enumerate","zip","dict_itemiterator","dict_reverseitemiterator","odict_iterator","itertools.zip_longest","itertools.pairwise"].contains n=false) (hQ:Q () s):Aq M A (CI tg (.ref it) u) Q E s:=by
  unfold CI
  cases tg <;> first
    | exact As hQ
    | (cases u <;> first
        | exact As hQ
        | (refine Ac (wpAny_load ho ?_)
           rw[hc,hd]
           show Aq M A (if (["enumerate","zip","dict_itemiterator","dict_reverseitemiterator","odict_iterator","itertools.zip_longest","itertools.pairwise"].contains n && vs[0]? == some (By _))=true then _ else _) Q E s
           rw[if_neg (by intro h;rw[hn,Bool.false_and] at h;cases h)]
           exact As hQ))
noncomputable def Itl(K:W.Frag)(a:Addr):It :=
 ⟨λi H=>∃xs x,SqL K H a xs/\xs[i]?=some x,λi H x H'=>H'=H/\∀xs,SqL K H a xs->xs[i]?=some x,λi H=>∃xs,SqL K H a xs/\xs.length<=i⟩
noncomputable def Itt(K:W.Frag)(a:Addr):It :=
 ⟨λi H=>∃xs x,SqT K H a xs/\xs[i]?=some x,λi H x H'=>H'=H/\∀xs,SqT K H a xs->xs[i]?=some x,λi H=>∃xs,SqT K H a xs/\xs.length<=i⟩
noncomputable def Itr(lo:Int)(n:Nat):It:=⟨λi _=>i<n,λi H x H'=>H'=H/\x=.int (lo+i),λi _=>n<=i⟩
theorem zgq{P:Am}{w:AB}{K:W.Frag}{tg:Expr}(a it:Addr):Turn P w K tg (Itl K a) [it] it (λi h=>h.IsListIter it a i) where
 mem:=by simp
 obj:=λi h st b hb=>by
  have e:b=it:=by simpa using hb
  subst e;obtain⟨o,e,c,d⟩:=st;exact⟨o,e,λv z=>by rw[d]at z;cases z⟩
 keep:=λi h h' st k=>st.at λo e=>k it (by simp) o e
 item:=by
  intro X hP hw hK hc i pins s σ H E I hf st hg;subst hP hw hK;obtain⟨xs,x,hq,hx⟩:=hg;obtain⟨its,rv,p,hz⟩:=I.list hq;obtain⟨u,hu,ru⟩:=rv.get hx;obtain⟨f0,f1,f2,f3,f4,f5⟩:=hf it (by simp);refine wpAny_pyNext_list_item st p.isList (x:=u) (by simpa using hu) λh' st' sb=>?_
  have I1:Inv X pins σ H { s with heap:=h' }:=I.turned (t':=s.toks) (λb o hb e=>(sb.2 b hb).trans e) f0 f1 f3 f4 f5;obtain⟨o,e,c,d⟩:=id st';exact⟨u,rfl,go_of (s:={ s with heap:=h' }) e c d (by decide) ⟨x,H,I1,ru,⟨rfl,λys hy=>by rw[I.list_inj hy hq];exact hx⟩,st',λb hb=>(hf b hb).1⟩⟩
 done:=by intro X hP hw hK hc i pins s σ H E I hf st hg;subst hP hw hK;obtain⟨xs,hq,hx⟩:=hg;obtain⟨its,rv,p,hz⟩:=I.list hq;obtain⟨f0,f1,f2,f3,f4,f5⟩:=hf it (by simp);have hl:=rv.length;exact wpAny_pyNext_list_end (I.ok.hd hc) st p.isList (by simp;lia) λh' eb=>⟨rfl,I.turned (t':=s.toks) (λb o hb e=>eb b o hb e) f0 f1 f3 f4 f5⟩
 self:=λ_ _ _ _ _ st h=>wpAny_pyIter_listiter st h
theorem zf2{P:Am}{w:AB}{K:W.Frag}{tg:Expr}(a it:Addr):Turn P w K tg (Itt K a) [it] it (λi h=>h.IsTupleIter it a i) where
 mem:=by simp
 obj:=λi h st b hb=>by
  have e:b=it:=by simpa using hb
  subst e;obtain⟨o,e,c,d⟩:=st;exact⟨o,e,λv z=>by rw[d]at z;cases z⟩
 keep:=λi h h' st k=>st.at λo e=>k it (by simp) o e
 item:=by
  intro X hP hw hK hc i pins s σ H E I hf st hg;subst hP hw hK;obtain⟨xs,x,hq,hx⟩:=hg;obtain⟨its,rv,p,hz⟩:=I.tuple hq;obtain⟨u,hu,ru⟩:=rv.get hx;obtain⟨f0,f1,f2,f3,f4,f5⟩:=hf it (by simp);refine wpAny_pyNext_tuple_item st (show s.heap.IsTuple a its.toArray from p) (x:=u) (by simpa using hu) λh' st' sb=>?_
  have I1:Inv X pins σ H { s with heap:=h' }:=I.turned (t':=s.toks) (λb o hb e=>(sb.2 b hb).trans e) f0 f1 f3 f4 f5;obtain⟨o,e,c,d⟩:=id st';exact⟨u,rfl,go_of (s:={ s with heap:=h' }) e c d (by decide) ⟨x,H,I1,ru,⟨rfl,λys hy=>by rw[I.tuple_inj hy hq];exact hx⟩,st',λb hb=>(hf b hb).1⟩⟩
 done:=by intro X hP hw hK hc i pins s σ H E I hf st hg;subst hP hw hK;obtain⟨xs,hq,hx⟩:=hg;obtain⟨its,rv,p,hz⟩:=I.tuple hq;obtain⟨f0,f1,f2,f3,f4,f5⟩:=hf it (by simp);have hl:=rv.length;exact wpAny_pyNext_tuple_end (I.ok.hd hc) st (show s.heap.IsTuple a its.toArray from p) (by simp;lia) λh' eb=>⟨rfl,I.turned (t':=s.toks) (λb o hb e=>eb b o hb e) f0 f1 f3 f4 f5⟩
 self:=λ_ _ _ _ _ st h=>wpAny_pyIter_tupleiter st h
theorem zdD{P:Am}{w:AB}{K:W.Frag}{tg:Expr}(it:Addr)(lo:Int)(n:Nat):Turn P w K tg (Itr lo n) [it] it (λi h=>IsRangeIter h it (lo+(i:Nat)*1) ((n:Int)-(i:Nat)) 1) where
 mem:=by simp
 obj:=λi h st b hb=>by
  have e:b=it:=by simpa using hb
  subst e
  exact⟨_,st,λv z=>by
   have z':Data.fields _=Data.cell v:=z
   cases z'⟩
 keep:=λi h h' st k=>k it (by simp) _ st
 item:=by
  intro X hP hw hK hc i pins s σ H E I hf st hg;subst hP hw hK;obtain⟨f0,f1,f2,f3,f4,f5⟩:=hf it (by simp);have W:=Walks.range (prog:=X.prog) (w:=X.w) (I.ok.hd hc) it lo 1 n;refine W.item i s _ _ hg st λv h' tk hv st' kk=>?_
  obtain⟨t,rfl⟩:=hv;have I1:Inv X pins σ H { s with heap:=h',toks:=tk }:=I.turned (λb o hb e=>kk b o (by simpa using hb) e) f0 f1 f3 f4 f5;refine⟨_,rfl,go_of (s:={ s with heap:=h',toks:=tk }) (n:="range_iterator") st' rfl rfl (by decide) ⟨.int (lo+i),H,I1,⟨t,?_⟩,⟨rfl,rfl⟩,st',λb hb=>(hf b hb).1⟩⟩;rw[Int.mul_one]
 done:=by intro X hP hw hK hc i pins s σ H E I hf st hg;subst hP hw hK;obtain⟨f0,f1,f2,f3,f4,f5⟩:=hf it (by simp);exact wpAny_pyNext_range_end (I.ok.hd hc) st (by have:n<=i:=hg;lia) λh' eb=>⟨rfl,I.turned (t':=s.toks) (λb o hb e=>eb b o hb e) f0 f1 f3 f4 f5⟩
 self:=λ_ _ _ _ _ st h=>wpAny_pyIter_rangeiter st h
section
variable {X:Cx}{tg:Expr}
noncomputable def iList(K:W.Frag)(tl:TE):TI:=λσ H R=>tl σ H λx H1=>∃a,x=.ref a/\(∃xs,SqL K H1 a xs)/\R (Itl K a) H1
noncomputable def iTup(K:W.Frag)(tl:TE):TI:=λσ H R=>tl σ H λx H1=>∃a,x=.ref a/\(∃xs,SqT K H1 a xs)/\R (Itt K a) H1
theorem zbM{l:Expr}{tl:TE}(hl:PE X l tl):PI X tg l (iList X.K tl):=by
 intro pins s σ H R I h;refine thn (hl pins s σ H _ I h) λv s1 ⟨x,H1,I1,r1,q1⟩=>?_
 obtain⟨a,e,⟨xs,hq⟩,q⟩:=q1;subst e
 cases r1
 obtain⟨its,rv,p,hz⟩:=I1.list hq;refine wpAny_pyIter_list p.isList ?_
 refine⟨s1.heap.objs.size,[s1.heap.objs.size],_,_,H1,rfl,I1.kept (t':=s1.toks) λb o e=>Ag _ e,zgq a _,⟨_,Ar _ rfl,rfl,rfl⟩,λb hb=>?_,q⟩;have e:b=s1.heap.objs.size:=by simpa using hb
 subst e;exact I1.fpOk (Ai _) (I1.hok.fresh (Ai _))
theorem zjN{l:Expr}{tl:TE}(hl:PE X l tl):PI X tg l (iTup X.K tl):=by
 intro pins s σ H R I h;refine thn (hl pins s σ H _ I h) λv s1 ⟨x,H1,I1,r1,q1⟩=>?_
 obtain⟨a,e,⟨xs,hq⟩,q⟩:=q1;subst e
 cases r1
 obtain⟨its,rv,p,hz⟩:=I1.tuple hq;refine wpAny_pyIter_tuple (show s1.heap.IsTuple a its.toArray from p) ?_
 refine⟨s1.heap.objs.size,[s1.heap.objs.size],_,_,H1,rfl,I1.kept (t':=s1.toks) λb o e=>Ag _ e,zf2 a _,⟨_,Ar _ rfl,rfl,rfl⟩,λb hb=>?_,q⟩;have e:b=s1.heap.objs.size:=by simpa using hb
 subst e;exact I1.fpOk (Ai _) (I1.hok.fresh (Ai _))
theorem zfH{pins:List (Addr × Obj)}{σ : St}{H:Hp}{s:Ab}{R:It -> Hp -> Prop}{E:Value -> Ab -> Prop}{lo hi:Int}{t u v:Tok}{tk:Nat}(I:Inv X pins σ H s)(h1 : -(2 ^ 62) <= lo)(h2:lo < 2 ^ 62)(h3 : -(2 ^ 62) <= hi)(h4:hi < 2 ^ 62)
  (q:R (Itr lo (hi-lo).toNat) H):Aq (Ap X.prog X.w) X.A (pyIter (.ref s.heap.objs.size)) (PIE X pins σ tg R) E { s with heap:=s.heap.push { cls:=.type "range",data:=.fields #[.int lo t,.int hi u,.int 1 v] },toks:=tk }:=by
 refine wpAny_pyIter_range (IsRange.new ..) (small_one h1 h2 h3 h4) ?_
 have I1:Inv X pins σ H { s with heap:=s.heap.push { cls:=.type "range",data:=.fields #[.int lo t,.int hi u,.int 1 v] },toks:=tk }:=I.kept λb o e=>Ag _ e
 refine⟨(s.heap.push { cls:=.type "range",data:=.fields #[.int lo t,.int hi u,.int 1 v] }).objs.size,[(s.heap.push { cls:=.type "range",data:=.fields #[.int lo t,.int hi u,.int 1 v] }).objs.size],_,_,H,rfl,
  I1.kept (t':=tk) λb o e=>Ag _ e,zdD _ lo (hi-lo).toNat,?_,λb hb=>?_,q⟩
 .have e1:lo+((0:Nat):Int)*1=lo:=by simp
  have e2:(((hi-lo).toNat:Nat):Int)-((0:Nat):Int)=Bq lo hi 1:=by rw[rangeSize_one];split <;> lia
  show IsRangeIter _ _ (lo+((0:Nat):Int)*1) ((((hi-lo).toNat:Nat):Int)-((0:Nat):Int)) 1;rw[e1,e2];exact Ar _ rfl
 .have e:b=(s.heap.push { cls:=.type "range",data:=.fields #[.int lo t,.int hi u,.int 1 v] }).objs.size:=by simpa using hb
  subst e;exact I1.fpOk (Ai _) (I1.hok.fresh (Ai _))
noncomputable def iRng1(ta:TA):TI:=λσ H R=>ta σ H λvs H1=>∃j:Int,vs=[.int j]/\-(2 ^ 62)<=j/\j<2 ^ 62/\R (Itr 0 j.toNat) H1
noncomputable def iRng2(ta:TA):TI:=λσ H R=>ta σ H λvs H1=>∃i j:Int,vs=[.int i,.int j]/\(-(2 ^ 62)<=i/\i<2 ^ 62/\-(2 ^ 62)<=j/\j<2 ^ 62)/\R (Itr i (j-i).toNat) H1
theorem zbi {a:Expr}{ta:TA}{p pos:Pos}(hg:Gl X "range") (hm:X.mg "range" = none) (ha:PA X [a] ta) (hs:AA [a] X.env=[(false,eval a X.env)]:=by rfl):PI X tg (.Call (.Name "range" p) [a] [] pos) (iRng1 ta):=by
 intro pins s σ H R I h;refine Call_ (zbW I hg hm boot_range (AV (thn (ha pos pins s σ H _ I h) λus s1 ⟨vs,H1,I1,r1,q1⟩=>?_) hs rfl));obtain⟨j,e,q1,q2,q⟩:=q1;subst e
 cases r1 with
 |cons r rr =>
  cases rr
  obtain⟨t,rfl⟩:=r;exact call_range_1 (zfH I1 (by lia) (by lia) q1 q2 (by simpa using q))
theorem zdc {a b:Expr}{ta:TA}{p pos:Pos}(hg:Gl X "range") (hm:X.mg "range" = none) (ha:PA X [a, b] ta) (hs:AA [a, b] X.env = [(false, eval a X.env), (false, eval b X.env)] := by rfl) (hs2:AA [b] X.env = [(false, eval b X.env)] := by rfl) :
  PI X tg (.Call (.Name "range" p) [a,b] [] pos) (iRng2 ta):=by
 intro pins s σ H R I h;refine Call_ (zbW I hg hm boot_range (AV (thn (ha pos pins s σ H _ I h) λus s1 ⟨vs,H1,I1,r1,q1⟩=>?_) (by rw[hs,hs2]) (by rw[hs2];rfl)));obtain⟨i,j,e,⟨q1,q2,q3,q4⟩,q⟩:=q1;subst e
 cases r1 with
 |cons r rr =>
  cases rr with
  |cons r' rr =>
   cases rr
   obtain⟨t,rfl⟩:=r;obtain⟨t',rfl⟩:=r';exact call_range_2 (zfH I1 q1 q2 q3 q4 q)
noncomputable def tFor(wi:TI)(g:TG)(tb:TS):TS:=λD σ H=>wi σ H λJ H1=>∃W:Nat->Nat->St->Hp->Prop,(∃m,W 0 m σ H1)/\∀i m σ H,W i m σ H ->
 (J.stop i H/\D.nx σ H)∨(J.go i H/\∃N:St->Hp->Prop,(∀ σ' H',N σ' H'->∃m',m'<m/\W (i+1) m' σ' H')/\∀x H',J.yld i H x H'->g x σ H' λσ2 H2=>tb { D with nx:=N,ct:=N,bk:=D.nx } σ2 H2)
noncomputable def zeJ(fp:List Addr)(h:Heap):List (Addr×Obj):=fp.filterMap λb=>(h.get? b).map λo=>(b,o)
theorem zb3{fp:List Addr}{h:Heap}{b:Addr}{o:Obj}(hb:b∈fp)(e:h.get? b=some o):(b,o)∈zeJ fp h:=List.mem_filterMap.mpr ⟨b,hb,by rw[e];rfl⟩
theorem zg2{fp:List Addr}{h:Heap}{p:Addr×Obj}(hp:p∈zeJ fp h):p.1∈fp/\h.get? p.1=some p.2:=by
 obtain⟨b,hb,e⟩:=List.mem_filterMap.mp hp
 cases q:h.get? b with
 |none=>rw[q]at e;cases e
 |some o =>
  rw[q]at e;have e':(b,o)=p:=Bu e;subst e';exact⟨hb,q⟩
theorem Inv.pinned{pins:List (Addr×Obj)}{σ:St}{H:Hp}{s:Ab}{fp:List Addr}(I:Inv X pins σ H s)(hf:∀b∈fp,FpOk X pins H b)(ho:∀b∈fp,∃o,s.heap.get? b=some o/\∀v,o.data≠.cell v):Inv X (pins++zeJ fp s.heap) σ H s :=
 I.pins_of λp hp=>(B0.mp hp).elim (λz=>I.pin p (AY _ z)) λz=>by obtain⟨hb,e⟩:=zg2 z;obtain⟨f0,f1,f2,_⟩:=hf p.1 hb;obtain⟨o,e',d⟩:=ho p.1 hb;rw[e]at e';cases e';exact⟨e,f0,f1,f2,d⟩
theorem Inv.unpinned{pins pl:List (Addr×Obj)}{σ:St}{H:Hp}{s:Ab}(I:Inv X (pins++pl) σ H s):Inv X pins σ H s:=I.pins_of λp hp=>I.pin p (AY _ (CT _ hp))
theorem zbG{iter:Expr}{body:List Stmt}{wi:TI}{g:TG}{tb:TS}{pos:Pos}(hp:PassesOwn (Ap X.prog X.w) X.A X.env X.xe)(hc:X.calm=true)(hi:PI X tg iter wi)(hg:PG X tg g)(hb:PSs X body tb)
  (hs:∀x,foldedSetIterable iter X.env x=pure x:=by intro _;rfl):PS X (.For tg iter body [] pos) (tFor wi g tb):=by
 intro pins s σ H D I h;refine wpAny_For (thn (hi pins s σ H _ I h) λv s1 h1=>thn h1 λitv s2 h2=>?_) hs;obtain⟨it,fp,tn,J,H2,e,I2,T,st2,f2,W,⟨m0,w0⟩,turn⟩:=h2;subst e;have stat:∀{H':Hp},(∀b∈fp,H' b=none)->∀b∈fp,FpOk X pins H' b:=λhn b hb=>⟨hn b hb,(f2 b hb).2⟩
 refine codeAny_forLoop_any (λn s'=>∃i σ' H',Inv X pins σ' H' s'/\tn i s'.heap/\(∀b∈fp,H' b=none)/\W i n σ' H') ?_ m0 ⟨0,σ,H2,I2,st2,λb hb=>(f2 b hb).1,w0⟩;rintro n s3 ⟨i,σ3,H3,I3,st3,fr3,w3⟩;rcases turn i n σ3 H3 w3 with⟨stop,qn⟩ |⟨go,N,hN,step⟩
 .refine Dk hp (thn (T.done X rfl rfl rfl hc i pins s3 σ3 H3 X.xe I3 (stat fr3) st3 stop) λr s4 ⟨hr,I4⟩=>?_);subst hr;exact wpAny_execs_nil ⟨σ3,H3,I4,qn⟩
 .refine Dk hp (thn (T.item X rfl rfl rfl hc i pins s3 σ3 H3 X.xe I3 (stat fr3) st3 go) λr s4 ⟨u,hr,h4⟩=>?_);subst hr;refine Dk hp (thn h4 λ_ s5 ⟨x,H5,I5,r5,y5,st5,fr5⟩=>?_);have I5':=I5.pinned (stat fr5) (T.obj _ _ st5);refine Dk hp (thn (hg _ s5 σ3 H5 x u _ I5' r5 (step x H5 y5)) λ_ s6 ⟨σ6,H6,I6,q6⟩=>?_);refine Dk hp (thn (hb _ s6 σ6 H6 _ I6 q6) λf s7 q7=>?_)
  have again:∀{σ7:St} {H7:Hp},Inv X (pins++zeJ fp s5.heap) σ7 H7 s7->N σ7 H7->∃m,m<n/\∃i σ' H',Inv X pins σ' H' s7/\tn i s7.heap/\(∀b∈fp,H' b=none)/\W i m σ' H':=λ{σ7 H7} I7 n7=>by obtain⟨m',hm,w7⟩:=hN σ7 H7 n7;refine⟨m',hm,i+1,σ7,H7,I7.unpinned,T.keep _ _ _ st5 λb hb o e=>(I7.pin (b,o) (AY _ (AY _ (zb3 hb e)))).1,λb hb=>?_,w7⟩;obtain⟨o,e,d⟩:=T.obj _ _ st5 b hb;exact (I7.pin (b,o) (AY _ (AY _ (zb3 hb e)))).2.1
  cases f with
  |next=>obtain⟨σ7,H7,I7,n7⟩:=q7;exact again I7 n7
  |cont=>obtain⟨σ7,H7,I7,n7⟩:=q7;exact again I7 n7
  |brk=>obtain⟨σ7,H7,I7,q7⟩:=q7;exact⟨σ7,H7,I7.unpinned,q7⟩
  |ret v=>obtain⟨x7,σ7,H7,I7,r7,q7⟩:=q7;exact⟨x7,σ7,H7,I7.unpinned,r7,q7⟩
end
theorem zb5{K:W.Frag}{a:Addr}{xs:List V}{g:TG}{tb:TS}{D:Ends}{σ : St}{H:Hp}(Pv:Nat -> St -> Hp -> Prop)(h0:Pv 0 σ H)(hl:∀i σ H, i <= xs.length -> Pv i σ H -> SqL K H a xs)
  (hs:∀i x σ H,xs[i]?=some x->Pv i σ H->g x σ H λσ2 H2=>tb { D with nx:=Pv (i+1),ct:=Pv (i+1),bk:=D.nx } σ2 H2) (hd:∀ σ H,Pv xs.length σ H->D.nx σ H) :
  ∃W:Nat->Nat->St->Hp->Prop,(∃m,W 0 m σ H)/\∀i m σ H,W i m σ H ->
   ((Itl K a).stop i H/\D.nx σ H)∨((Itl K a).go i H/\∃N:St->Hp->Prop,(∀ σ' H',N σ' H'->∃m',m'<m/\W (i+1) m' σ' H')/\∀x H',(Itl K a).yld i H x H'->g x σ H' λσ2 H2=>tb { D with nx:=N,ct:=N,bk:=D.nx } σ2 H2):=by
 refine⟨λi m σ H=>m=xs.length-i/\i<=xs.length/\Pv i σ H,⟨xs.length,by simp,A1 _,h0⟩,?_⟩;rintro i m σ H ⟨rfl,hi,p⟩;have q:=hl i σ H hi p
 by_cases hlt:i<xs.length
 .refine .inr ⟨⟨xs,xs[i],q,by simp[hlt]⟩,Pv (i+1),λσ' H' p'=>⟨xs.length-(i+1),by lia,rfl,hlt,p'⟩,λx H' y=>?_⟩;obtain⟨e,y⟩:=y;subst e;exact hs i x σ _ (y xs q) p
 .have e:i=xs.length:=by lia
  subst e;exact .inl ⟨⟨xs,q,Ai _⟩,hd σ H p⟩
theorem zjh{K:W.Frag}{a:Addr}{xs:List V}{g:TG}{tb:TS}{D:Ends}{σ : St}{H:Hp}(Pv:Nat -> St -> Hp -> Prop)(h0:Pv 0 σ H)(hl:∀i σ H, i <= xs.length -> Pv i σ H -> SqT K H a xs)
  (hs:∀i x σ H,xs[i]?=some x->Pv i σ H->g x σ H λσ2 H2=>tb { D with nx:=Pv (i+1),ct:=Pv (i+1),bk:=D.nx } σ2 H2) (hd:∀ σ H,Pv xs.length σ H->D.nx σ H) :
  ∃W:Nat->Nat->St->Hp->Prop,(∃m,W 0 m σ H)/\∀i m σ H,W i m σ H ->
   ((Itt K a).stop i H/\D.nx σ H)∨((Itt K a).go i H/\∃N:St->Hp->Prop,(∀ σ' H',N σ' H'->∃m',m'<m/\W (i+1) m' σ' H')/\∀x H',(Itt K a).yld i H x H'->g x σ H' λσ2 H2=>tb { D with nx:=N,ct:=N,bk:=D.nx } σ2 H2):=by
 refine⟨λi m σ H=>m=xs.length-i/\i<=xs.length/\Pv i σ H,⟨xs.length,by simp,A1 _,h0⟩,?_⟩;rintro i m σ H ⟨rfl,hi,p⟩;have q:=hl i σ H hi p
 by_cases hlt:i<xs.length
 .refine .inr ⟨⟨xs,xs[i],q,by simp[hlt]⟩,Pv (i+1),λσ' H' p'=>⟨xs.length-(i+1),by lia,rfl,hlt,p'⟩,λx H' y=>?_⟩;obtain⟨e,y⟩:=y;subst e;exact hs i x σ _ (y xs q) p
 .have e:i=xs.length:=by lia
  subst e;exact .inl ⟨⟨xs,q,Ai _⟩,hd σ H p⟩
theorem zaJ{lo:Int}{n:Nat}{g:TG}{tb:TS}{D:Ends}{σ : St}{H:Hp}(Pv:Nat -> St -> Hp -> Prop)(h0:Pv 0 σ H)
  (hs:∀i σ H,i<n->Pv i σ H->g (.int (lo+i)) σ H λσ2 H2=>tb { D with nx:=Pv (i+1),ct:=Pv (i+1),bk:=D.nx } σ2 H2) (hd:∀ σ H,Pv n σ H->D.nx σ H) :
  ∃W:Nat->Nat->St->Hp->Prop,(∃m,W 0 m σ H)/\∀i m σ H,W i m σ H ->
   ((Itr lo n).stop i H/\D.nx σ H)∨((Itr lo n).go i H/\∃N:St->Hp->Prop,(∀ σ' H',N σ' H'->∃m',m'<m/\W (i+1) m' σ' H')/\∀x H',(Itr lo n).yld i H x H'->g x σ H' λσ2 H2=>tb { D with nx:=N,ct:=N,bk:=D.nx } σ2 H2):=by
 refine⟨λi m σ H=>m=n-i/\i<=n/\Pv i σ H,⟨n,by simp,A1 _,h0⟩,?_⟩;rintro i m σ H ⟨rfl,hi,p⟩
 by_cases hlt:i<n
 .refine .inr ⟨hlt,Pv (i+1),λσ' H' p'=>⟨n-(i+1),by lia,rfl,hlt,p'⟩,λx H' y=>?_⟩;obtain⟨e,y⟩:=y;subst e y;exact hs i σ _ hlt p
 .have e:i=n:=by lia
  subst e;exact .inl ⟨Ai _,hd σ H p⟩
noncomputable abbrev R2:=V->V->Hp->VK->Prop
noncomputable def OpR(X:Cx)(f:Value->Value->Sem Value)(r:R2):Prop :=
 ∀(pins:List (Addr×Obj)) (s:Ab) (σ:St) (H:Hp) (x y:V) (v u:Value) (Q:VK),Inv X pins σ H s->RelV x v->RelV y u->r x y H Q ->
  Aq (Ap X.prog X.w) X.A (f v u) (EP X pins σ Q) X.xe s
noncomputable def UnR(X:Cx)(f:Value->Sem Value)(r:V->Hp->VK->Prop):Prop :=
 ∀(pins:List (Addr×Obj)) (s:Ab) (σ:St) (H:Hp) (x:V) (v:Value) (Q:VK),Inv X pins σ H s->RelV x v->r x H Q ->
  Aq (Ap X.prog X.w) X.A (f v) (EP X pins σ Q) X.xe s
noncomputable def CallR(X:Cx)(f:Value)(r:List V->Hp->VK->Prop):Prop :=
 ∀(pins:List (Addr×Obj)) (s:Ab) (σ:St) (H:Hp) (xs:List V) (us:List Value) (Q:VK),Inv X pins σ H s->Vals xs us->r xs H Q ->
  Aq (Ap X.prog X.w) X.A (call f us) (EP X pins σ Q) X.xe s
noncomputable def TruR(X:Cx)(r:V->Hp->(Bool->Hp->Prop)->Prop):Prop :=
 ∀(pins:List (Addr×Obj)) (s:Ab) (σ:St) (H:Hp) (x:V) (v:Value) (Q:Bool->Hp->Prop),Inv X pins σ H s->RelV x v->r x H Q ->
  Aq (Ap X.prog X.w) X.A (truthy v) (TP X pins σ Q) X.xe s
noncomputable def tOp(r:R2)(ta tb:TE):TE:=λσ H Q=>ta σ H λx H1=>tb σ H1 λy H2=>r x y H2 Q
noncomputable def tUn(r:V->Hp->VK->Prop)(ta:TE):TE:=λσ H Q=>ta σ H λx H1=>r x H1 Q
noncomputable def rI(C:Int->Int->Prop)(g:Int->Int->V):R2:=λx y H Q=>∃i j,x=.int i/\y=.int j/\C i j/\Q (g i j) H
noncomputable def rI0(g:Int->Int->V):R2:=λx y H Q=>∃i j,x=.int i/\y=.int j/\Q (g i j) H
noncomputable def rU(g:Int->V):V->Hp->VK->Prop:=λx H Q=>∃i,x=.int i/\Q (g i) H
section
variable {X:Cx}{a b c:Expr}{ta tb tc:TE}{pos:Pos}
theorem binT(ha:PE X a ta)(hb:PE X b tb){pins:List (Addr × Obj)}{s:Ab}{σ : St}{H:Hp}{R:V -> V -> Hp -> Prop}(I:Inv X pins σ H s)
  (h:ta σ H λx H1=>tb σ H1 λy H2=>R x y H2) {Q:Value->Ab->Prop} {f:Value->Value->Sem Value}
  (hf:∀v u s2 x y H2,Inv X pins σ H2 s2->RelV x v->RelV y u->R x y H2->Aq (Ap X.prog X.w) X.A (f v u) Q X.xe s2) :
  Aq (Ap X.prog X.w) X.A (eval a X.env) (λv s₁=>Aq (Ap X.prog X.w) X.A (eval b X.env) (λu s₂=>Aq (Ap X.prog X.w) X.A (f v u) Q X.xe s₂) X.xe s₁) X.xe s:=by
 refine thn (ha pins s σ H _ I h) λv s1 ⟨x,H1,I1,r1,q1⟩=>?_
 refine thn (hb pins s1 σ H1 _ I1 q1) λu s2 ⟨y,H2,I2,r2,q2⟩=>?_
 exact hf v u s2 x y H2 I2 r1 r2 q2
theorem pe_op{op:Operator}{r:R2}(ho:OpR X (Cu op) r)(ha:PE X a ta)(hb:PE X b tb):PE X (.BinOp a op b pos) (tOp r ta tb):=by intro pins s σ H Q I h;exact wpAny_BinOp (binT ha hb I h λv u s2 x y H2 I2 rx ry q=>ho pins s2 σ H2 x y v u Q I2 rx ry q)
theorem pe_un{op:UnaryOp}{r:V->Hp->VK->Prop}(ho:UnR X (unaryOp op) r)(ha:PE X a ta):PE X (.UnaryOp op a pos) (tUn r ta):=by intro pins s σ H Q I h;exact UnaryOp_ (thn (ha pins s σ H _ I h) λv s1 ⟨x,H1,I1,r1,q1⟩=>ho pins s1 σ H1 x v Q I1 r1 q1)
theorem opI{f:Value -> Value -> Sem Value}{C:Int -> Int -> Prop}{g:Int -> Int -> Int}
  (rule:∀(i j:Int) (t u:Tok) (s:Ab) (Q:Value->Ab->Prop) (E:Value->Ab->Prop),C i j->Q (.int (g i j) s.toks) { s with toks:=s.toks+1 }->Aq (Ap X.prog X.w) X.A (f (.int i t) (.int j u)) Q E s) :
  OpR X f (rI C λi j=>.int (g i j)):=by
 intro pins s σ H x y v u Q I rx ry h;obtain⟨i,j,rfl,rfl,hc,q⟩:=h;obtain⟨t,rfl⟩:=rx;obtain⟨t',rfl⟩:=ry;exact rule i j t t' s _ _ hc ⟨.int (g i j),H,I.tok _,⟨_,rfl⟩,q⟩
theorem opI0{f:Value -> Value -> Sem Value}{g:Int -> Int -> Int}
  (rule:∀(i j:Int) (t u:Tok) (s:Ab) (Q:Value->Ab->Prop) (E:Value->Ab->Prop),Q (.int (g i j) s.toks) { s with toks:=s.toks+1 }->Aq (Ap X.prog X.w) X.A (f (.int i t) (.int j u)) Q E s) :
  OpR X f (rI0 λi j=>.int (g i j)):=by
 intro pins s σ H x y v u Q I rx ry h;obtain⟨i,j,rfl,rfl,q⟩:=h;obtain⟨t,rfl⟩:=rx;obtain⟨t',rfl⟩:=ry;exact rule i j t t' s _ _ ⟨.int (g i j),H,I.tok _,⟨_,rfl⟩,q⟩
theorem opB0{f:Value -> Value -> Sem Value}{g:Int -> Int -> Bool}
  (rule:∀(i j:Int) (t u:Tok) (s:Ab) (Q:Value->Ab->Prop) (E:Value->Ab->Prop),Q (.bool (g i j)) s->Aq (Ap X.prog X.w) X.A (f (.int i t) (.int j u)) Q E s) :
  OpR X f (rI0 λi j=>.bl (g i j)):=by
 intro pins s σ H x y v u Q I rx ry h;obtain⟨i,j,rfl,rfl,q⟩:=h;obtain⟨t,rfl⟩:=rx;obtain⟨t',rfl⟩:=ry;exact rule i j t t' s _ _ ⟨.bl (g i j),H,I,rfl,q⟩
noncomputable def CDiv(i j:Int):Prop:=0<j/\j<1073741824
noncomputable def CPow(i j:Int):Prop:=0<=j/\j<=1000000/\i.natAbs<2 ^ 64
noncomputable def CMul(i j:Int):Prop:=(-(2 ^ 64)<i/\i<2 ^ 64)∨(-(2 ^ 64)<j/\j<2 ^ 64)
theorem CMul.ok{i j:Int}(h:CMul i j):IntMulOk i j:=by
 rcases h with⟨h1,h2⟩ |⟨h1,h2⟩
 .exact .of_left (intBits_le_64 h1 h2)
 .exact .of_right (intBits_le_64 h1 h2)
theorem zaI:OpR X (Cu .Add) (rI0 λi j=>.int (i+j)):=opI0 λ_ _ _ _ _ _ _ q=>add_int q
theorem zbV:OpR X (Cu .Sub) (rI0 λi j=>.int (i-j)):=opI0 λ_ _ _ _ _ _ _ q=>sub_int q
theorem zdM:OpR X (Cu .Mult) (rI CMul λi j=>.int (i*j)):=opI λ_ _ _ _ _ _ _ hc q=>mul_int q hc.ok
theorem zde:OpR X (Cu .FloorDiv) (rI CDiv λi j=>.int (i / j)):=opI λi j _ _ _ _ _ hc q=>by have h1:(0:Int)<j:=hc.1;have h2:j<1073741824:=hc.2;exact floordiv_int (by lia) (by rw[Int.fdiv_eq_ediv_of_nonneg i (by lia)];exact q) (.inl (PyProof.noPylong_small (by lia)))
theorem zbk:OpR X (Cu .Mod) (rI (λ_ j=>0<j) λi j=>.int (i % j)):=opI λi j _ _ _ _ _ hc q=>by have h1:(0:Int)<j:=hc;exact mod_int' (by lia) (by rw[Int.fmod_eq_emod_of_nonneg i (by lia)];exact q)
theorem zg0:OpR X (Cu .Pow) (rI CPow λi j=>.int (i ^ j.toNat)):=opI λ_ _ _ _ _ _ _ hc q=>pow_int_small hc.1 hc.2.1 hc.2.2 q
theorem unI{f:Value -> Sem Value}{g:Int -> Int}
  (rule:∀(i:Int) (t:Tok) (s:Ab) (Q:Value->Ab->Prop) (E:Value->Ab->Prop),Q (.int (g i) s.toks) { s with toks:=s.toks+1 }->Aq (Ap X.prog X.w) X.A (f (.int i t)) Q E s) :
  UnR X f (rU λi=>.int (g i)):=by
 intro pins s σ H x v Q I rx h;obtain⟨i,rfl,q⟩:=h;obtain⟨t,rfl⟩:=rx;exact rule i t s _ _ ⟨.int (g i),H,I.tok _,⟨_,rfl⟩,q⟩
theorem zcl:UnR X (unaryOp .USub) (rU λi=>.int (-i)):=unI λ_ _ _ _ _ q=>neg_int q
end
noncomputable def scal:V->V->Bool
 |.non,.non=>true |.non,.int _=>true |.int _,.non=>true |.non,.bl _=>true |.bl _,.non=>true |.non,.str _=>true |.str _,.non=>true
 |.int _,.int _=>true |.bl _,.bl _=>true |.str _,.str _=>true |.byt _,.byt _=>true
 |.int _,.str _=>true |.str _,.int _=>true |.bl _,.str _=>true |.str _,.bl _=>true
 |_,_=>false
noncomputable def rEq:R2:=λx y H Q=>scal x y=true/\Q (.bl (decide (x=y))) H
noncomputable def rNe:R2:=λx y H Q=>scal x y=true/\Q (.bl (!decide (x=y))) H
theorem zhm{i j:Int}:decide (V.int i=V.int j)=(i == j):=by rw[Cj];simp
theorem ziD{i j:Bool}:decide (V.bl i=V.bl j)=(i == j):=by rw[Cj];simp
theorem zhl{i j:Str}:decide (V.str i=V.str j)=(i == j):=by rw[Cj];simp
theorem zhn{i j:Array UInt8}:decide (V.byt i=V.byt j)=(i.toList == j.toList):=by
 rw[Cj]
 cases i
 cases j
 simp
section
variable {X:Cx}{a b c:Expr}{ta tb tc:TE}{pos:Pos}
theorem zaB{pins:List (Addr×Obj)}{σ:St}{H:Hp}{s:Ab}{Q:VK}{k k':Bool}(I:Inv X pins σ H s)(q:Q (.bl k) H)(e:k=k'):EP X pins σ Q (.bool k') s:=by subst e;exact⟨.bl k,H,I,rfl,q⟩
theorem op_eq:OpR X (Bp .Eq) rEq:=by
 intro pins s σ H x y v u Q I rx ry h;obtain⟨hs,q⟩:=h
 cases x with
 |non =>
  cases rx
  cases y with
  |non=>cases ry;exact PySem.EqNone.eq_none_none (zaB I q (by simp))
  |bl j=>cases ry;exact PySem.EqNone.eq_none_bool (zaB I q (by simp))
  |int j=>obtain⟨t',rfl⟩:=ry;exact PySem.EqNone.eq_none_int (zaB I q (by simp))
  |str j=>obtain⟨t',rfl⟩:=ry;exact PySem.EqNone.eq_none_str (zaB I q (by simp))
  |_=>exact absurd (show false=true from hs) AI
 |bl i =>
  cases rx
  cases y with
  |non=>cases ry;exact PySem.EqNone.eq_bool_none (zaB I q (by simp))
  |bl j=>cases ry;exact eq_bool (zaB I q ziD)
  |str j=>obtain⟨t',rfl⟩:=ry;exact PySem.EqMixed.eq_bool_str (zaB I q (by simp))
  |_=>exact absurd (show false=true from hs) AI
 |int i =>
  obtain⟨t,rfl⟩:=rx
  cases y with
  |non=>cases ry;exact PySem.EqNone.eq_int_none (zaB I q (by simp))
  |int j=>obtain⟨t',rfl⟩:=ry;exact eq_int (zaB I q zhm)
  |str j=>obtain⟨t',rfl⟩:=ry;exact PySem.EqMixed.eq_int_str (zaB I q (by simp))
  |_=>exact absurd (show false=true from hs) AI
 |str i =>
  obtain⟨t,rfl⟩:=rx
  cases y with
  |non=>cases ry;exact PySem.EqNone.eq_str_none (zaB I q (by simp))
  |bl j=>cases ry;exact PySem.EqMixed.eq_str_bool (zaB I q (by simp))
  |int j=>obtain⟨t',rfl⟩:=ry;exact PySem.EqMixed.eq_str_int (zaB I q (by simp))
  |str j=>obtain⟨t',rfl⟩:=ry;exact eq_str (zaB I q zhl)
  |_=>exact absurd (show false=true from hs) AI
 |byt i =>
  obtain⟨t,rfl⟩:=rx
  cases y with
  |byt j=>obtain⟨t',rfl⟩:=ry;exact W.eq_bytes (zaB I q zhn)
  |_=>exact absurd (show false=true from hs) AI
 |_=>cases y <;> exact absurd (show false=true from hs) AI
theorem op_ne:OpR X (Bp .NotEq) rNe:=by
 intro pins s σ H x y v u Q I rx ry h;obtain⟨hs,q⟩:=h
 cases x with
 |non =>
  cases rx
  cases y with
  |non=>cases ry;exact PySem.EqNone.ne_none_none (zaB I q (by simp))
  |bl j=>cases ry;exact PySem.EqNone.ne_none_bool (zaB I q (by simp))
  |int j=>obtain⟨t',rfl⟩:=ry;exact PySem.EqNone.ne_none_int (zaB I q (by simp))
  |str j=>obtain⟨t',rfl⟩:=ry;exact PySem.EqNone.ne_none_str (zaB I q (by simp))
  |_=>exact absurd (show false=true from hs) AI
 |bl i =>
  cases rx
  cases y with
  |non=>cases ry;exact PySem.EqNone.ne_bool_none (zaB I q (by simp))
  |bl j=>cases ry;exact ne_bool (zaB I q (congrArg not ziD))
  |str j=>obtain⟨t',rfl⟩:=ry;exact PySem.EqMixed.ne_bool_str (zaB I q (by simp))
  |_=>exact absurd (show false=true from hs) AI
 |int i =>
  obtain⟨t,rfl⟩:=rx
  cases y with
  |non=>cases ry;exact PySem.EqNone.ne_int_none (zaB I q (by simp))
  |int j=>obtain⟨t',rfl⟩:=ry;exact ne_int (zaB I q (congrArg not zhm))
  |str j=>obtain⟨t',rfl⟩:=ry;exact PySem.EqMixed.ne_int_str (zaB I q (by simp))
  |_=>exact absurd (show false=true from hs) AI
 |str i =>
  obtain⟨t,rfl⟩:=rx
  cases y with
  |non=>cases ry;exact PySem.EqNone.ne_str_none (zaB I q (by simp))
  |bl j=>cases ry;exact PySem.EqMixed.ne_str_bool (zaB I q (by simp))
  |int j=>obtain⟨t',rfl⟩:=ry;exact PySem.EqMixed.ne_str_int (zaB I q (by simp))
  |str j=>obtain⟨t',rfl⟩:=ry;exact ne_str (zaB I q (congrArg not zhl))
  |_=>exact absurd (show false=true from hs) AI
 |byt i =>
  obtain⟨t,rfl⟩:=rx
  cases y with
  |byt j=>obtain⟨t',rfl⟩:=ry;exact W.ne_bytes (zaB I q (congrArg not zhn))
  |_=>exact absurd (show false=true from hs) AI
 |_=>cases y <;> exact absurd (show false=true from hs) AI
theorem op_lt:OpR X (Bp .Lt) (rI0 λi j=>.bl (decide (i<j))):=opB0 λ_ _ _ _ _ _ _ q=>lt_int q
theorem op_le:OpR X (Bp .LtE) (rI0 λi j=>.bl (decide (i<=j))):=opB0 λ_ _ _ _ _ _ _ q=>le_int q
theorem op_gt:OpR X (Bp .Gt) (rI0 λi j=>.bl (decide (j<i))):=opB0 λ_ _ _ _ _ _ _ q=>gt_int q
theorem op_ge:OpR X (Bp .GtE) (rI0 λi j=>.bl (decide (j<=i))):=opB0 λ_ _ _ _ _ _ _ q=>ge_int q
theorem zct:OpR X (Bp .In) (λx y H Q=>∃i j,x=.str i/\y=.str j/\Q (.bl (!(Br j i 0 j.length 1).isEmpty)) H):=by intro pins s σ H x y v u Q I rx ry h;obtain⟨i,j,rfl,rfl,q⟩:=h;obtain⟨t,rfl⟩:=rx;obtain⟨t',rfl⟩:=ry;exact in_str (zaB I q rfl)
theorem ziv:OpR X (Bp .Is) (λx y H Q=>y=.non/\Q (.bl (decide (x=.non))) H):=by
 intro pins s σ H x y v u Q I rx ry h;obtain⟨rfl,q⟩:=h
 cases ry
 refine is_none_gen (zaB I q ?_)
 cases x <;> first
  | (cases rx;rfl)
  | (obtain⟨t,rfl⟩:=rx;rfl)
theorem zi7:OpR X (Bp .IsNot) (λx y H Q=>y=.non/\Q (.bl (!decide (x=.non))) H):=by
 intro pins s σ H x y v u Q I rx ry h;obtain⟨rfl,q⟩:=h
 cases ry
 refine isnot_none_gen (zaB I q ?_)
 cases x <;> first
  | (cases rx;rfl)
  | (obtain⟨t,rfl⟩:=rx;rfl)
theorem zaw(b:Expr){op:CmpOp}(h:op≠.In:=by decide)(h2:op≠.NotIn:=by decide):Dc op b=false:=by
 have e1:(op == CmpOp.In)=false:=by cases op <;> first |rfl |exact absurd rfl h
 have e2:(op == CmpOp.NotIn)=false:=by cases op <;> first |rfl |exact absurd rfl h2
 cases b <;> simp[Dc,e1,e2]
theorem za5{op:CmpOp}{r:R2}(ho:OpR X (Bp op) r)(ha:PE X a ta)(hb:PE X b tb)(hm:Dc op b=false):PE X (.Compare a [op] [b] pos) (tOp r ta tb):=by intro pins s σ H Q I h;exact wpAny_Compare1 (binT ha hb I h λv u s2 x y H2 I2 rx ry q=>ho pins s2 σ H2 x y v u Q I2 rx ry q) hm
noncomputable def tTest(t:TE):TT:=λσ H Q=>t σ H λx H'=>∃k,x=.bl k/\Q k H'
theorem zar{op:CmpOp}{r:R2}(ho:OpR X (Bp op) r)(ha:PE X a ta)(hb:PE X b tb)(hm:Dc op b=false):PT X (.Compare a [op] [b] pos) (tTest (tOp r ta tb)):=by
 intro pins s σ H Q I h
 refine wpAny_isTrue_Compare1 (thn (ha pins s σ H _ I h) λv s1 ⟨x,H1,I1,r1,q1⟩=>thn (hb pins s1 σ H1 _ I1 q1) λu s2 ⟨y,H2,I2,r2,q2⟩ =>
  thn (ho pins s2 σ H2 x y v u _ I2 r1 r2 q2) λc s3 ⟨z,H3,I3,r3,k,e,q3⟩=>?_) hm
 subst e
 cases r3
 exact Bk ⟨H3,I3,q3⟩
noncomputable def zie(r r':R2)(ta tb tc:TE):TE:=λσ H Q=>ta σ H λx H1=>tb σ H1 λy H2=>r x y H2 λz H3=>∃k,z=.bl k /\
 (if k=true then tc σ H3 λw' H4=>r' y w' H4 Q else Q (.bl false) H3)
theorem zhL{op op':CmpOp}{r r':R2}(ho:OpR X (Bp op) r)(ho':OpR X (Bp op') r')(ha:PE X a ta)(hb:PE X b tb)(hc:PE X c tc)
  (hm:lastMarks [op,op'] [b,c]=false:=by with_unfolding_all rfl):PT X (.Compare a [op,op'] [b,c] pos) (tTest (zie r r' ta tb tc)):=by
 intro pins s σ H Q I h
 refine isTrue_chain (thn (ha pins s σ H _ I h) λv s1 ⟨x,H1,I1,r1,q1⟩=>test_link (thn (hb pins s1 σ H1 _ I1 q1) λu s2 ⟨y,H2,I2,r2,q2⟩ =>
  thn (ho pins s2 σ H2 x y v u _ I2 r1 r2 q2) λd s3 ⟨z,H3,I3,r3,k,e,q3⟩=>?_)) hm
 subst e
 cases r3
 refine Bk ?_
 cases k with
 |false =>
  obtain⟨k',e',q'⟩:=q3
  cases e'
  exact ite_ff ⟨H3,I3,q'⟩
 |true =>
  refine ite_tt (test_last (thn (hc pins s3 σ H3 _ I3 q3) λw' s4 ⟨z',H4,I4,r4,q4⟩=>thn (ho' pins s4 σ H4 y z' u w' _ I4 r2 r4 q4) λd' s5 ⟨z2,H5,I5,r5,k2,e2,q5⟩=>?_));subst e2
  cases r5
  exact Bk ⟨H5,I5,q5⟩
noncomputable def TruV(K:W.Frag)(x:V)(H:Hp)(k:Bool):Prop :=
 match x with
 |.non=>k=false
 |.bl b=>k=b
 |.int i=>k=(i != 0)
 |.str y=>y.length<=sizeLine/\k=((y.length:Int) != 0)
 |.byt y=>y.size<=sizeLine/\k=((y.size:Int) != 0)
 |.ref p=>(∃xs,SqL K H p xs/\k=!xs.isEmpty)∨(∃xs,SqT K H p xs/\k=!xs.isEmpty)∨∃kvs,H p=some (.dK kvs)/\k=!kvs.isEmpty
 |_=>False
theorem zge{κ:Type}{kvs:List (κ×V)}{vs:List (κ×Value)}(r:KV kvs vs):(!vs.isEmpty)=!kvs.isEmpty:=by
 cases r <;> rfl
theorem zdS{xs:List V}{its:List Value}(r:Vals xs its):(!its.toArray.isEmpty)=!xs.isEmpty:=by
 cases r <;> simp
theorem zdi:(sizeLine:Nat)<2 ^ 63:=by rw[sizeLine_eq];decide
theorem zjy:TruR X (λx H Q=>∃k,TruV X.K x H k/\Q k H):=by
 intro pins s σ H x v Q I rx h;obtain⟨k,e,q⟩:=h;have hl:=zdi;have hs:sizeLine=16777216:=sizeLine_eq
 cases x with
 |non =>
  cases rx
  have e':k=false:=e;subst e';exact truthy_none ⟨H,I,q⟩
 |bl b =>
  cases rx
  have e':k=b:=e;subst e';exact Bk ⟨H,I,q⟩
 |int i =>
  obtain⟨t,rfl⟩:=rx;have e':k=(i != 0):=e;subst e';exact PySem.P.truthy_int ⟨H,I,q⟩
 |str y =>
  obtain⟨t,rfl⟩:=rx;obtain⟨hy,e'⟩:y.length<=sizeLine/\k=((y.length:Int) != 0):=e;subst e';exact PySem.P.truthy_str (by lia) ⟨H,I.tok _,q⟩
 |byt y =>
  obtain⟨t,rfl⟩:=rx;obtain⟨hy,e'⟩:y.size<=sizeLine/\k=((y.size:Int) != 0):=e;subst e';exact W.truthy_bytes (by lia) ⟨H,I.tok _,q⟩
 |ref p =>
  cases rx
  have e':(∃xs,SqL X.K H p xs/\k=!xs.isEmpty)∨(∃xs,SqT X.K H p xs/\k=!xs.isEmpty)∨∃kvs,H p=some (.dK kvs)/\k=!kvs.isEmpty:=e;rcases e' with⟨xs,hx,e'⟩ |⟨xs,hx,e'⟩ |⟨kvs,hx,e'⟩
  .subst e';obtain⟨its,r,pl,hz⟩:=I.list hx;have hlen:=r.length;exact wpAny_truthy_list pl.isList (by simp only[Az];lia) ⟨H,I.tok _,by rw[zdS r];exact q⟩
  .subst e';obtain⟨its,r,pl,hz⟩:=I.tuple hx;have hlen:=r.length;exact truthy_tuple pl (by simp only[Az];lia) ⟨H,I.tok _,by rw[zdS r];exact q⟩
  .subst e';obtain⟨hz,hS,vs,r,m⟩:kvs.length<=sizeLine/\(p == CA)=false/\∃vs,KV kvs vs/\s.heap.DictOf (zaP X.prog X.w) p vs:=I.hok p _ hx;have hlen:kvs.length=vs.length:=Paired.length r;exact wpAny_truthy_dict hS m (by lia) ⟨H,I.tok _,by rw[zge r];exact q⟩
 |_=>exact (show False from e).elim
theorem zfI(ha:PE X a ta)(he:∀whole, isTrue a X.env whole=(do let v <- whole; standAt a.pos; holding [v] (truthy v))) :
  PT X a (λσ H Q=>ta σ H λx H'=>∃k,TruV X.K x H' k/\Q k H'):=by
 intro pins s σ H Q I h;exact isTrue_plain (thn (ha pins s σ H _ I h) λv s1 ⟨x,H1,I1,r1,q1⟩=>zjy pins s1 σ H1 x v Q I1 r1 q1) (he _)
theorem vals1{x:V}{us:List Value}(r:Vals [x] us):∃u,us=[u]/\RelV x u:=by
 cases r with
 |cons r1 r2=>cases r2;exact⟨_,rfl,r1⟩
theorem vals2{x y:V}{us:List Value}(r:Vals [x,y] us):∃u w',us=[u,w']/\RelV x u/\RelV y w':=by
 cases r with
 |cons r1 r2 =>
  cases r2 with
  |cons r3 r4=>cases r4;exact⟨_,_,rfl,r1,r3⟩
theorem ze3 (hc:X.calm=true):CallR X (.builtin "min") (λxs H Q=>∃i j,xs=[.int i,.int j]/\Q (.int (if j<i then j else i)) H):=by
 intro pins s σ H xs us Q I r h;obtain⟨i,j,rfl,q⟩:=h;obtain⟨u,w',rfl,⟨t,rfl⟩,⟨t',rfl⟩⟩:=vals2 r;refine min_two_ints (I.ok.hd hc) λh' tk k=>⟨_,H,I.kept k,?_,q⟩
 by_cases hj:j<i
 .rw[if_pos hj,if_pos hj];exact⟨_,rfl⟩
 .rw[if_neg hj,if_neg hj];exact⟨_,rfl⟩
theorem ze5:CallR X (.type "int") (λxs H Q=>(∃i,xs=[.int i]/\Q (.int i) H)∨∃k,xs=[.bl k]/\Q (.int (if k then 1 else 0)) H):=by
 intro pins s σ H xs us Q I r h;rcases h with⟨i,rfl,q⟩ |⟨k,rfl,q⟩
 .obtain⟨u,rfl,t,rfl⟩:=vals1 r;exact call_int_int ⟨.int i,H,I,⟨_,rfl⟩,q⟩
 .obtain⟨u,rfl,r1⟩:=vals1 r
  cases r1
  exact call_int_bool ⟨.int (if k then 1 else 0),H,I.tok _,⟨_,rfl⟩,q⟩
theorem zbZ:CallR X (.type "str") (λxs H Q=>∃i,xs=[.int i]/\i.natAbs.log2<1920/\Q (.str (Cf i)) H):=by intro pins s σ H xs us Q I r h;obtain⟨i,rfl,hz,q⟩:=h;obtain⟨u,rfl,t,rfl⟩:=vals1 r;exact PySem.P.str_of_int hz ⟨.str _,H,I.tok _,⟨_,rfl⟩,q⟩
end
structure ObjM (h:Heap) (x dx C:Addr) (mA:Str->Option Value):Prop where
 obj:h.get? x=some (W.instObj C dx)
 ns:h.Ns1 dx mA
 ne:dx≠x
theorem zcx{h:Heap}{dx:Addr}{mA:Str->Option Value}(n:h.Ns1 dx mA):∃od,h.get? dx=some od/\∀name,W.lookIn name od=some (mA name):=by
 obtain⟨o,es,ep,ho,hd,hk,_,hm⟩:=n;refine⟨o,ho,λname=>?_⟩;have e:=hm name;unfold nsFind findBy at e;rw[<- Array.find?_toList]at e;unfold W.lookIn;rw[hd];dsimp only;split
 .rename_i y q
  rw[q]at e;exact congrArg some e
 .rename_i q
  rw[q]at e
  have a:es.toList.any (·.refKey)=false:=by rw[List.any_eq_false];intro y hy;obtain⟨z,t,hkey⟩:=hk y (Array.mem_toList_iff.mp hy);simp[DictEntry.refKey,hkey]
  have a':¬ es.toList.any (·.refKey)=true:=by rw[a];exact AI
  rw[if_neg a'];exact congrArg some e
theorem ObjM.look{h:Heap}{x dx C:Addr}{mA:Str->Option Value}(I:ObjM h x dx C mA):∃od,CU h x (W.instObj C dx) C (some od)/\∀name,W.lookIn name od=some (mA name) :=
 let ⟨od,ho,hl⟩:=zcx I.ns
 ⟨od,⟨I.obj,rfl,rfl,ho⟩,hl⟩
section
variable {prog:Am}{w:AB}{A:Aw}{E:Value->Ab->Prop}{s:Ab}{K:W.Frag}{x dx C f:Addr}{mA:Str->Option Value}{name:Str}{v:Value}
end
noncomputable def putF(f:Str)(v:V):List (Str×V)->List (Str×V)
 |[]=>[(f,v)]
 | (g,x)::r=>if g=f then (g,v)::r else (g,x)::putF f v r
theorem zdh(f g:Str)(v:V):∀fs:List (Str×V),(putF f v fs).lookup g=if g=f then some v else fs.lookup g
 |[]=>by
  show Cc g [(f,v)]=_
  by_cases h:g=f
  .have hb:(g == f)=true:=beq_iff_eq.mpr h;simp only[Cc,hb,if_pos h]
  .have hb:(g == f)=false:=beq_eq_false_iff_ne.mpr h;simp only[Cc,hb,if_neg h]
 | (k,x)::r=>by
  have ih:=zdh f g v r;rw[show putF f v ((k,x)::r)=(if k=f then (k,v)::r else (k,x)::putF f v r) from rfl]
  by_cases hk:k=f
  .rw[if_pos hk]
   by_cases h:g=k
   .have hb:(g == k)=true:=beq_iff_eq.mpr h;simp only[Cc,hb,if_pos (h.trans hk)]
   .have hb:(g == k)=false:=beq_eq_false_iff_ne.mpr h;simp only[Cc,hb,if_neg (λe:g=f=>h (e.trans hk.symm))]
  .rw[if_neg hk]
   by_cases h:g=k
   .have hb:(g == k)=true:=beq_iff_eq.mpr h;simp only[Cc,hb,if_neg (λe:g=f=>hk (h.symm.trans e))]
   .have hb:(g == k)=false:=beq_eq_false_iff_ne.mpr h;simp only[Cc,hb];exact ih
theorem zdj(f:Str)(v:V):∀fs:List (Str×V),f∈(putF f v fs).map (·.1)/\∀g,g∈fs.map (·.1)->g∈(putF f v fs).map (·.1)
 |[]=>⟨by simp[putF],λg h=>by simp at h⟩
 | (k,x)::r=>by
  obtain⟨i1,i2⟩:=zdj f v r;rw[show putF f v ((k,x)::r)=(if k=f then (k,v)::r else (k,x)::putF f v r) from rfl]
  by_cases hk:k=f
  .rw[if_pos hk];subst hk;exact⟨by simp,λg h=>by simpa using h⟩
  .rw[if_neg hk];refine⟨?_,λg h=>?_⟩
   .rw[AZ];exact AH _ i1
   .rw[AZ]at h ⊢;rcases Ax.mp h with e |e
    .exact List.mem_cons.mpr (.inl e)
    .exact AH _ (i2 g e)
theorem RelO.some_of{v:V}{o:Option Value}(r:RelO (some v) o):∃u,o=some u/\RelV v u:=by
 cases o with
 |none=>exact (show False from r).elim
 |some u=>exact⟨u,rfl,r⟩
theorem zhe{v:V}{u:Value}(r:RelV v u):W.handedIn u=true:=by
 cases v with
 |non=>cases (show u=BQ from r);rfl
 |bl b=>cases (show u=Value.bool b from r);rfl
 |int i=>obtain⟨t,e⟩:=(show ∃t,u=Value.int i t from r);cases e;rfl
 |str x=>obtain⟨t,e⟩:=(show ∃t,u=Value.str x t from r);cases e;rfl
 |byt b=>obtain⟨t,e⟩:=(show ∃t,u=Value.bytes b t from r);cases e;rfl
 |flt b=>obtain⟨t,e⟩:=(show ∃t,u=Value.float b t from r);cases e;rfl
 |ref a=>cases (show u=AM a from r);rfl
 |ty n=>cases (show u=Value.type n from r);rfl
section
variable {P:Am}{w:AB}{H H':Hp}{h h':Heap}{a C dx:Addr}{fs fs':List (Str×V)}
theorem zjg(hok:HOk P w H h)(e:H a=some (.ins C dx fs)):∃mA,ObjM h a dx C mA/\(∀f,RelO (fs.lookup f) (mA f))/\PySem.Within mA (fs.map (·.1))/\fs.length<=1000/\H dx=some (.own a):=by obtain⟨d,z,ne,ob,mA,n,r,q⟩:=(show ObjOk P w H h a (.ins C dx fs) from hok a _ e);exact⟨mA,⟨ob,n,ne⟩,r,q,z,d⟩
end
structure Cls (K:W.Frag) (C:Addr):Prop where
 pg:W.plainGet K C Str.empty=true
 hd:W.hasDictIn K C=true
 po:W.plainOver K C=true
 sa:Bl K (.ref C) "__setattr__" = some (some (.builtin "object.__setattr__"))
theorem Cls.get{K:W.Frag}{C:Addr}(c:Cls K C)(f:Str):W.plainGet K C f=true:=c.pg
noncomputable def zcV(K:W.Frag)(C:Addr)(f:Str):Prop:=Bl K (.ref C) f=some none
structure Con (K:W.Frag) (C:Addr) (f:Str) (v:V) (u:Value):Prop where
 at_:Bl K (.ref C) f=some (some u)
 rel:RelV v u
 get:W.specialIn K u "__get__" = some none
 cp:W.copiedNames.contains f=false
structure Meth (K:W.Frag) (C:Addr) (m:Str) (f:Addr):Prop where
 at_:Bl K (.ref C) m=some (some (.ref f))
 fn:W.isFn K (.ref f)=true
 kp:Cv K (.ref f)=true
section
variable {X:Cx}{pins:List (Addr×Obj)}{σ:St}{H:Hp}{s:Ab}{a C dx:Addr}{fs:List (Str×V)}{f:Str}{v:V}{A:Aw}{E:Value->Ab->Prop}
theorem zjq{prog:Am}{w:AB}{env:Env}{e:Expr}{f:Str}{pos:Pos}{s:Ab}{Q:Value -> Ab -> Prop}(hb:Dd e f env (eval e env)=eval e env)
  (h:Aq (Ap prog w) A (eval e env) (λo s₁=>Aq (Ap prog w) A (getAttr o f true) Q E s₁) E s):Aq (Ap prog w) A (eval (.Attribute e f pos) env) Q E s :=
 Attribute_any_ h (by rw[arm_eval_Attribute,hb])
end
section
variable {X:Cx}{o e value:Expr}{f:Str}{pos pos' tpos:Pos}{ta tv:TE}
end
section
variable {X:Cx}{pins:List (Addr×Obj)}{σ:St}{H:Hp}{s:Ab}{A:Aw}{E:Value->Ab->Prop}{Q:Value->Ab->Prop}{c:Value}{b:Bool}
inductive TyOf (K:W.Frag) (H:Hp):V->Value->Prop where
  |non:TyOf K H .non (.type "NoneType")
  |bl (x:Bool):TyOf K H (.bl x) (.type "bool")
  |int (i:Int):TyOf K H (.int i) (.type "int")
  |str (x:Str):TyOf K H (.str x) (.type "str")
  |flt (x:UInt64):TyOf K H (.flt x) (.type "float")
  |lst {a:Addr} {xs:List V} (e:H a=some (.lst xs)):TyOf K H (.ref a) (.type "list")
  |frz {a:Addr} {o:Obj} {xs:List V} (e:H a=some (.frz o (.lst xs))):TyOf K H (.ref a) (.type "list")
  |tup {a:Addr} {xs:List V} (e:H a=some (.tup xs)):TyOf K H (.ref a) (.type "tuple")
  |dK {a:Addr} {kvs:List (Key×V)} (e:H a=some (.dK kvs)):TyOf K H (.ref a) (.type "dict")
  |dT {a:Addr} {kvs:List (List Key×V)} (e:H a=some (.dT kvs)):TyOf K H (.ref a) (.type "dict")
  |ins {a C dx:Addr} {fs:List (Str × V)} (e:H a=some (.ins C dx fs)) (cl:Cls K C) (ha:Bl K (.ref C) "__class__" = some (some (.builtin "object.__class__")))
      (hn:W.specialIn K (.builtin "object.__class__") "__get__" = some (some (.builtin "getset_descriptor.__get__"))) (htk:W.takesIn K (.builtin "object.__class__")=some true)
      (hm:W.mroIn K C (.type "object")=some true):TyOf K H (.ref a) (.ref C)
theorem zha{x:V}{u t:Value}(I:Inv X pins σ H s)(rx:RelV x u)(ty:TyOf X.K H x t)(e:W.kitOne X.K t c=some b)(h:∀tk, Q (.bool b) { s with toks := tk }) :
  Aq (Ap X.prog X.w) A (call (.builtin "isinstance") [u,c]) Q E s:=by
 cases ty with
 |non=>cases (show u=BQ from rx);exact Cw W.kitx_none I.kIn BS e (λz=>nomatch z) h
 |bl y=>cases (show u=Value.bool y from rx);exact Cw W.kitx_bool I.kIn BS e (λz=>nomatch z) h
 |int i=>obtain⟨t,q⟩:=(show ∃t,u=Value.int i t from rx);cases q;exact Cw W.kitx_int I.kIn BS e (λz=>nomatch z) h
 |str y=>obtain⟨t,q⟩:=(show ∃t,u=Value.str y t from rx);cases q;exact Cw W.kitx_str I.kIn BS e (λz=>nomatch z) h
 |flt y=>obtain⟨t,q⟩:=(show ∃t,u=Value.float y t from rx);cases q;exact Cw W.kitx_float I.kIn BS e (λz=>nomatch z) h
 |@lst a xs ea =>
  cases (show u=AM a from rx)
  obtain⟨_,_,n,_,h1⟩:=(show ObjOk X.prog X.w H s.heap a (.lst xs) from I.hok a _ ea);exact Cw W.kitx_list I.kIn ⟨_,h1,rfl⟩ e (λz=>nomatch z) h
 |@frz a ob xs ea =>
  cases (show u=AM a from rx)
  obtain⟨_,_,_,n,_,h1⟩:=(show ObjOk X.prog X.w H s.heap a (.frz ob (.lst xs)) from I.hok a _ ea);exact Cw W.kitx_list I.kIn ⟨_,h1,rfl⟩ e (λz=>nomatch z) h
 |@tup a xs ea =>
  cases (show u=AM a from rx)
  obtain⟨_,_,_,p⟩:=(show ObjOk X.prog X.w H s.heap a (.tup xs) from I.hok a _ ea);obtain⟨o,h1,h2,_⟩:=p;exact Cw W.kitx_tuple I.kIn ⟨o,h1,h2⟩ e (λz=>nomatch z) h
 |@dK a kvs ea =>
  cases (show u=AM a from rx)
  obtain⟨_,_,vs,_,p⟩:=(show ObjOk X.prog X.w H s.heap a (.dK kvs) from I.hok a _ ea);obtain⟨o,es,ep,h1,h2,_⟩:=p;exact Cw W.kitx_dict I.kIn ⟨o,h1,h2.1⟩ e (λz=>nomatch z) h
 |@dT a kvs ea =>
  cases (show u=AM a from rx)
  obtain⟨_,_,xs,_,o,es,ep,h1,h2,_⟩:=(show ObjOk X.prog X.w H s.heap a (.dT kvs) from I.hok a _ ea);exact Cw W.kitx_dict I.kIn ⟨o,h1,h2.1⟩ e (λz=>nomatch z) h
 |@ins a C dx fs ea cl ha hn htk hm =>
  cases (show u=AM a from rx)
  obtain⟨mA,O,_⟩:=zjg I.hok ea;obtain⟨od,J,_⟩:=O.look;exact Cw (W.kitx_own (cl.get _) cl.hd ha hn htk hm) I.kIn J e (λz=>nomatch z) h
end
structure Room (k:Nat) (A:Aw):Prop where
 hd:A.handled=none
 dp:A.depth+3*k+5<recursionLimit
 un:A.units+16*k+200<cLine
 gd:A.guards=some []
theorem Room.mono{j k:Nat}{A:Aw}(r:Room k A)(h:j<=k):Room j A:=⟨r.hd,by have:=r.dp;lia,by have:=r.un;lia,r.gd⟩
theorem Room.deeper{k:Nat}{A:Aw}(r:Room (k+1) A)(env:Env):Room k (A.deeper env) :=
 ⟨r.hd,by have:=r.dp;show A.depth+1+3*k+5<_;lia,by have:=r.un;show A.units+3+16*k+200<_;lia,r.gd⟩
theorem zgc {A:Aw}{C:Addr}{us:List Value}{kw:List (Str×Value)}:(A.under (.builtin "type.__call__" ⟨.ref C::us,kw⟩)).depth=A.depth+1:=by
 first |rfl |simp[Around.under,Code.weight,Code.isCreation,Code.isGuard,Code.isCaller,Code.frames,Code.isFrame,guardIds]
theorem zgb {A:Aw}{C:Addr}{us:List Value}{kw:List (Str×Value)}:(A.under (.builtin "type.__call__" ⟨.ref C::us,kw⟩)).units=A.units+1:=by
 first |rfl |simp[Around.under,Code.cUnits,Code.frames,Code.isFrame]
theorem Room.make {k:Nat}{A:Aw}(r:Room (k+1) A) (C:Addr) (us:List Value) (kw:List (Str×Value)):Room k (A.under (.builtin "type.__call__" ⟨.ref C::us,kw⟩)) :=
 ⟨r.hd,by have:=r.dp;rw[zgc];lia,by have:=r.un;rw[zgb];lia,by have:=r.gd;first |exact this | (simp[Around.under,Code.guards,Code.isGuard,guardIds,pushGuards,this])⟩
theorem Room.depth{k:Nat}{A:Aw}(r:Room k A):A.depth<recursionLimit:=by have:=r.dp;lia
theorem Room.units{k:Nat}{A:Aw}(r:Room k A):A.units+64<cLine:=by have:=r.un;lia
theorem Room.units0{k:Nat}{A:Aw}(r:Room k A):A.units<cLine:=by have:=r.un;lia
noncomputable def tNil:TA:=λ_ H Q=>Q [] H
noncomputable def tCons(ta:TE)(tr:TA):TA:=λσ H Q=>ta σ H λx H1=>tr σ H1 λxs H2=>Q (x::xs) H2
section
variable {X:Cx}{e:Expr}{es:List Expr}{te:TE}{t:TA}{pos:Pos}
theorem zab:PA X [] tNil:=λ_ _ _ _ H Q I h=>Calls.spliced_nil ⟨[],H,I,.nil,h⟩
theorem zaf(ha:PE X e te)(hr:PA X es t)(hs:AA (e::es) X.env=(false,eval e X.env)::AA es X.env:=by rfl):PA X (e::es) (tCons te t):=by intro pos pins s σ H Q I h;rw[hs];show Aq _ _ (spliced ((false,eval e X.env)::CB pos (AA es X.env))) _ _ s;refine Calls.spliced_cons (thn (ha pins s σ H _ I h) λu s1 ⟨x,H1,I1,r1,q1⟩=>?_);exact thn (hr pos pins s1 σ H1 _ I1 q1) λus s2 ⟨xs,H2,I2,r2,q2⟩=>⟨x::xs,H2,I2,.cons r1 r2,q2⟩
noncomputable def tTup(t:TA):TE:=λσ H Q=>t σ H λxs H1=>xs.length<=sizeLine/\∀p,H1 p=none->Q (.ref p) (upd H1 p (.tup xs))
noncomputable def tLst(t:TA):TE:=λσ H Q=>t σ H λxs H1=>xs.length<=sizeLine/\∀p,H1 p=none->Q (.ref p) (upd H1 p (.lst xs))
theorem za4{x1}(h:PA X es t):PE X (.Tuple es x1 pos) (tTup t):=by intro pins s σ H Q I hq;refine wpAny_Tuple_spliced (thn (h pos pins s σ H _ I hq) λus s1 ⟨xs,H1,I1,r,z,q⟩=>⟨by rw[<- r.length];exact z,?_⟩);have hf:H1 s1.heap.objs.size=none:=I1.hok.fresh (Ai _);refine⟨.ref s1.heap.objs.size,upd H1 s1.heap.objs.size (.tup xs),I1.laid (t':=s1.toks) (λb u e=>Ag _ e) (Ai _) ?_,rfl,q _ hf⟩;exact⟨z,us,r,⟨_,Ar _ rfl,rfl,_,rfl⟩⟩
theorem za0(h:PA X es t):PE X (.List es pos) (tLst t):=by intro pins s σ H Q I hq;refine wpAny_List_spliced (thn (h pos pins s σ H _ I hq) λus s1 ⟨xs,H1,I1,r,z,q⟩=>⟨by rw[<- r.length];exact z,?_⟩);have hf:H1 s1.heap.objs.size=none:=I1.hok.fresh (Ai _);refine⟨.ref s1.heap.objs.size,upd H1 s1.heap.objs.size (.lst xs),I1.laid (t':=s1.toks) (λb u e=>Ag _ e) (Ai _) ?_,rfl,q _ hf⟩;exact⟨z,us,0,r,Ar _ rfl⟩
end
noncomputable abbrev Sp:=List V->Hp->VK->XK->Prop
noncomputable abbrev CXT:=List Env->Hp->Ab->XK->Value->Ab->Prop
structure Env0 (P:Am) (w:AB) (K:W.Frag) (mg:Str->Option Value) (base:Heap) (A:Aw) (outer:List Env) (s:Ab) (H:Hp):Prop where
 frames:A.frames=some outer
 mod:Mod K mg base
 bs:∀b o,base.get? b=some o->s.heap.get? b=some o/\H b=none
 bsz:base.objs.size<=s.heap.objs.size
 funs:s.heap.FunFrames base outer
 frf:∀b∈frs outer,H b=none
 hok:HOk P w H s.heap
 bare:AllBare s.gens
noncomputable def CE(outer:List Env)(P:Am)(w:AB)(H:Hp)(s:Ab)(Q:VK)(u:Value)(s':Ab):Prop :=
 ∃v H',s'.os=s.os/\AllBare s'.gens/\Un (frs outer) [] H H' s.heap s'.heap/\HOk P w H' s'.heap/\RelV v u/\Q v H'
noncomputable def CR(CX:CXT)(outer:List Env)(P:Am)(w:AB)(H:Hp)(s:Ab)(Q:VK)(E:XK)(r:Result)(s':Ab):Prop :=
 match r with
 |.ok (.ret u)=>CE outer P w H s Q u s'
 |.ok _=>False
 |.error e=>CX outer H s E e s'
structure FnOk (P:Am) (w:AB) (K:W.Frag) (mg:Str->Option Value) (base:Heap) (CX:CXT) (k:Nat) (f:Addr) (fd:A5) (ps:List Str) (sp:Sp):Prop where
 len:∀vs H Q E,sp vs H Q E->vs.length=ps.length
 run:∀(A:Aw) (outer:List Env) (s:Ab) (H:Hp) (args:Args) (us:List Value) (vs:List V) (Q:VK) (E:XK),Room k A->Env0 P w K mg base A outer s H->BindsTo s fd args (ps.zip us)->Vals vs us->sp vs H Q E ->
  CC (Ap P w) A (.call (.ref f) args) (CR CX outer P w H s Q E) s
theorem Env0.make{P:Am}{w:AB}{K:W.Frag}{mg:Str -> Option Value}{base:Heap}{A:Aw}{outer:List Env}{s:Ab}{H:Hp}(e:Env0 P w K mg base A outer s H)(C:Addr)(us:List Value)(kw:List (Str × Value)) :
  Env0 P w K mg base (A.under (.builtin "type.__call__" ⟨.ref C::us,kw⟩)) outer s H:=⟨by first |exact e.frames | (simpa[Around.under,Code.envs,Code.isFrame,pushEnvs]using e.frames),e.mod,e.bs,e.bsz,e.funs,e.frf,e.hok,e.bare⟩
section
variable {X:Cx}{pins:List (Addr×Obj)}{σ:St}{H:Hp}{s s':Ab}
theorem Inv.env0(I:Inv X pins σ H s):Env0 X.prog X.w X.K X.mg X.base X.A X.stack s H :=
 ⟨I.ok.frames,I.ok.mod,I.bs,AK I.ok.bsz I.sz,I.stack,I.stkFree,I.hok,I.bare⟩
theorem Inv.after{Q:VK}{u:Value}(I:Inv X pins σ H s)(h:CE X.stack X.prog X.w H s Q u s'):EP X pins σ Q u s':=by obtain⟨v,H',os,bare,un,hok,r,q⟩:=h;obtain⟨hh,g,d,t,os'⟩:=s';obtain rfl:os'=s.os:=os;exact⟨v,H',I.call (h':=hh) (g':=g) (d':=d) (t':=t) (ch:=[]) un hok bare (λb z=>absurd z (by simp)),r,q⟩
end
noncomputable def tCall(sp:Sp)(dvs:List V)(E:XK)(t:TA):TE:=λσ H Q=>t σ H λvs H1=>sp (vs++dvs) H1 Q E
noncomputable def Binds(K:W.Frag)(fd:A5)(ps:List Str)(ds:List Value):Prop :=
 ∀(s:Ab) (us:List Value),K.In s.heap->(us++ds).length=ps.length->BindsTo s fd ⟨us,[]⟩ (ps.zip (us++ds))
theorem Binds.all{K:W.Frag}{fd:A5}{ps:List Str}(h:∀us:List Value,us.length=ps.length->bindArgs fd ⟨us,[]⟩=pure (ps.zip us)):Binds K fd ps []:=λs us _ hl=>by rw[B3]at hl ⊢;exact .of_eq (h us hl)
noncomputable def zcU(CX:CXT)(X:Cx)(E:XK):Prop:=∀(pins:List (Addr×Obj)) (σ:St) (H:Hp) (s:Ab) (e:Value) (s':Ab),Inv X pins σ H s->CX X.stack H s E e s'->X.xe e s'
section
variable {X:Cx}{CX:CXT}{k:Nat}{f C:Addr}{fd:A5}{ps:List Str}{sp:Sp}{dvs:List V}{ds:List Value}{E:XK}{x m:Str}{p pos apos:Pos}{e o:Expr}{es:List Expr}{ta:TE}{t:TA}
theorem zil{pins:List (Addr × Obj)}{σ : St}{H:Hp}{s:Ab}{Q:VK}{us:List Value}{vs:List V}(F:FnOk X.prog X.w X.K X.mg X.base CX k f fd ps sp)(hr:Room k X.A)(hb:Binds X.K fd ps ds)(hd:Vals dvs ds)(hx:zcU CX X E)
  (I:Inv X pins σ H s) (r:Vals vs us) (h:sp (vs++dvs) H Q E):Aq (Ap X.prog X.w) X.A (call (.ref f) us) (EP X pins σ Q) X.xe s:=by
 have r2:Vals (vs++dvs) (us++ds):=r.append hd;have hl:(us++ds).length=ps.length:=by rw[<- r2.length];exact F.len _ _ _ _ h
 refine wpAny_call (codeAny_mono (F.run X.A X.stack s H ⟨us,[]⟩ (us++ds) (vs++dvs) Q E hr I.env0 (hb s us I.kIn hl) r2 h) λr s' hq=>?_)
 cases r with
 |error e=>exact hx pins σ H s e s' I hq
 |ok fl =>
  cases fl with
  |ret u=>exact I.after hq
  |next=>exact Bj hq
  |brk=>exact Bj hq
  |cont=>exact Bj hq
theorem zgY(F:FnOk X.prog X.w X.K X.mg X.base CX k f fd ps sp)(hr:Room k X.A)(hg:Gl X x)(hm:X.mg x=some (.ref f))(hk:Cv X.K (.ref f)=true)(hb:Binds X.K fd ps ds)(hd:Vals dvs ds)(hx:zcU CX X E)
  (ha:PA X (e::es) t) (hdb:(x == ("__debug__" : Str))=false:=by decide) (he:AA (e::es) X.env=(false,eval e X.env)::AA es X.env:=by rfl) (hpl:(CB pos (AA es X.env)).any (·.1)=false:=by rfl) :
  PE X (.Call (.Name x p) (e::es) [] pos) (tCall sp dvs E t):=by
 intro pins s σ H Q I h;refine BF (zcF I hg hm ?_ hdb);refine W.callWith_K (h₀:=X.base) I.ok.mod.kin hk (thn (ha pos pins s σ H _ I h) λus s1 ⟨vs,H1,I1,r,q⟩=>⟨I1.kIn,?_⟩) he hpl;exact zil F hr hb hd hx I1 r q
structure Mk (K:W.Frag) (C f:Addr):Prop where
 makes:W.makesIn K C=true
 init:Bl K (.ref C) "__init__" = some (some (.ref f))
 fn:W.isFn K (.ref f)=true
 kp:Cv K (.ref C)=true
end
section
variable {X:Cx}{CX:CXT}{k:Nat}{f C:Addr}{fd:A5}{ps ks:List Str}{sp:Sp}{E:XK}{x m:Str}{p pos apos kpos:Pos}{e o:Expr}{es:List Expr}{kws:List Keyword}{te ta:TE}{t tk:TA}{nm:Option Str}
structure KBinds (K:W.Frag) (fd:A5) (ps ks:List Str) (g:List Value->List Value->List Value) (gV:List V->List V->List V):Prop where
 to:∀(s:Ab) (us ws:List Value),K.In s.heap->(g us ws).length=ps.length->BindsTo s fd ⟨us,ks.zip ws⟩ (ps.zip (g us ws))
 rel:∀{vs:List V} {us:List Value} {zs:List V} {ws:List Value},Vals vs us->Vals zs ws->Vals (gV vs zs) (g us ws)
variable {g:List Value->List Value->List Value}{gV:List V->List V->List V}
end
structure FnScope (N P:List Str) (sc:Scope):Prop where
 kind:sc.kind=.function
 co:sc.isCoroutine=false
 gen:sc.isGenerator=false
 nd:N.Nodup
 pre:N.take P.length=P
 par:∀x∈P,sc.names.lookup x=some .local∨sc.names.lookup x=some .cell
 nofree:∀y∈sc.names,y.2≠.free
theorem ze6{kindOf:Str->Option NameKind}{x:Str}:∀{binds:List (Str×Value)}{m:Str->Option Value},(∀v,(x,v) ∉ binds)->bindL kindOf binds m x=m x
 |[],_,_=>rfl
 | (n,v)::r,m,h=>by
  unfold bindL;rw[ze6 λw hw=>h w (AH _ hw)];split
  .have:x≠n:=by rintro rfl;exact h v A4
   simp[this]
  .rfl
theorem ze8{kindOf:Str->Option NameKind}{x:Str}:∀{binds:List (Str×Value)}{m:Str->Option Value},(∀v,(x,v) ∉ binds)->bindC kindOf binds m x=m x
 |[],_,_=>rfl
 | (n,v)::r,m,h=>by
  unfold bindC;rw[ze8 λw hw=>h w (AH _ hw)];split
  .rfl
  .have:x≠n:=by rintro rfl;exact h v A4
   simp[this]
theorem ze7{kindOf:Str -> Option NameKind}{x:Str}{v:Value} : ∀{P:List Str}{vs:List Value}{i:Nat}{m:Str -> Option Value}, P.Nodup -> P[i]? = some x -> vs[i]? = some v -> kindOf x=some .local ->
  bindL kindOf (P.zip vs) m x=some v
 |[],_,_,_,_,h,_,_=>by simp at h
 |_::_,[],_,_,_,_,h,_=>by simp at h
 |p::P,w::vs,0,m,nd,h1,h2,hk=>by
  simp at h1 h2;subst h1;subst h2;show bindL kindOf ((p,w)::P.zip vs) m p=_;unfold bindL;rw[ze6 λv hv=>(Dp.mp nd).1 (List.of_mem_zip hv).1,if_pos hk];simp
 |p::P,w::vs,i+1,m,nd,h1,h2,hk=>by
  show bindL kindOf ((p,w)::P.zip vs) m x=_;unfold bindL;exact ze7 (i:=i) (Dp.mp nd).2 (by simpa using h1) (by simpa using h2) hk
theorem ze9{kindOf:Str -> Option NameKind}{x:Str}{v:Value} : ∀{P:List Str}{vs:List Value}{i:Nat}{m:Str -> Option Value}, P.Nodup -> P[i]? = some x -> vs[i]? = some v -> kindOf x ≠ some .local ->
  bindC kindOf (P.zip vs) m x=some v
 |[],_,_,_,_,h,_,_=>by simp at h
 |_::_,[],_,_,_,_,h,_=>by simp at h
 |p::P,w::vs,0,m,nd,h1,h2,hk=>by
  simp at h1 h2;subst h1;subst h2;show bindC kindOf ((p,w)::P.zip vs) m p=_;unfold bindC;rw[ze8 λv hv=>(Dp.mp nd).1 (List.of_mem_zip hv).1,if_neg hk];simp
 |p::P,w::vs,i+1,m,nd,h1,h2,hk=>by
  show bindC kindOf ((p,w)::P.zip vs) m x=_;unfold bindC;exact ze9 (i:=i) (Dp.mp nd).2 (by simpa using h1) (by simpa using h2) hk
noncomputable def start(N:List Str)(vs:List V):St:=vs.map some++Ay (N.length-vs.length) none
noncomputable def cxOf(CX:CXT)(P:Am)(w:AB)(K:W.Frag)(mg:Str->Option Value)(base:Heap)(N:List Str)(qual:Str)(scope:Scope)(f:Addr)(cd:Value)(A:Aw)(outer:List Env)(s:Ab)(H:Hp)(E:XK):Cx where
 prog:=P
 w:=w
 K:=K
 mg:=mg
 base:=base
 A:=A.deeper (envOfC qual scope s.heap.objs.size f cd)
 N:=N
 s₀:=s
 H₀:=H
 env:=envOfC qual scope s.heap.objs.size f cd
 outer:=outer
 stack:=envOfC qual scope s.heap.objs.size f cd::outer
 ex:=[]
 calm:=true
 fn:=λ_=>true
 pn:=[]
 xe:=λe s'=>Aq (Ap P w) (A.deeper (envOfC qual scope s.heap.objs.size f cd)) (leaving (envOfC qual scope s.heap.objs.size f cd) e) (λ_ s''=>CX outer H s E e s'') (λe' s''=>CX outer H s E e' s'') s'
theorem zfY{sc:Scope}{n:Nat}{x:Str}(h:sc.names.lookup x=some .cell):∃c,(cellsFrom n sc.names []).lookup x=some c:=by have q:=W.cellsFrom_some sc.names n [] (.inl h);exact Option.isSome_iff_exists.mp q
theorem zhb{CX:CXT}{P:Am}{w:AB}{K:W.Frag}{mg:Str -> Option Value}{base:Heap}{N ps:List Str}{qual:Str}{scope:Scope}{f:Addr}{cd:Value}{A:Aw}{outer:List Env}{s s1:Ab}{H:Hp}{E:XK}{us:List Value}{vs:List V}
  (S:FnScope N ps scope) (hd:A.handled=none) (e0:Env0 P w K mg base A outer s H) (hl:vs.length=ps.length) (r:Vals vs us)
  (x:InCallC s s.heap.objs.size (bindL (envOfC qual scope s.heap.objs.size f cd).kindOf (ps.zip us) λ_=>none) (cellsFrom (s.heap.objs.size+1) scope.names []) (bindC (envOfC qual scope s.heap.objs.size f cd).kindOf (ps.zip us) λ_=>none) s1) :
  Inv (cxOf CX P w K mg base N qual scope f cd A outer s H E) [] (start N vs) H s1:=by
 have hpl:ps.length<=N.length:=by have:=congrArg List.length S.pre;rw[AJ]at this;lia
 obtain⟨h1,tk,rfl,hk⟩:=x.done;have noA:∀b:Addr,b ∉ (cxOf CX P w K mg base N qual scope f cd A outer s H E).ex:=λb z=>absurd (show b∈([]:List Addr) from z) (by simp)
 refine⟨⟨e0.mod,S.kind,rfl,rfl,Ai _,λy z c h1 h2=>?_,λy hy=>?_,λy c _ h=>?_,λ_=>hd,Around.frames_deeper e0.frames,.inr ⟨rfl,rfl⟩,λb z=>absurd z (noA b),e0.bs,e0.bsz,λb _ _=>noA b,λb z=>absurd z (noA b),e0.funs,e0.frf⟩,
  rfl,e0.bare,Un.kept hk,⟨_,x.toInCall.ns,λi y v h1 h2 h3=>?_⟩,λy c h=>⟨_,x.cell y c h⟩,e0.hok.fresh (Ai _),λy c h=>?_,λp hp=>absurd (show p∈([]:List (Addr×Obj)) from hp) (by simp),e0.hok.kept hk,?_⟩
 .exact name_of_addr x.apart (B5 h1) (B5 h2)
 .have hy:scope.names.lookup y=some .cell∨scope.names.lookup y=some .free:=hy;rcases hy with hy |hy
  .exact zfY hy
  .exact absurd rfl (S.nofree _ (B5 hy))
 .exact Nat.le_of_lt (x.above y c (B5 h))
 .have hi:i < vs.length := by
   unfold start at h2
   by_cases hi:i<vs.length
   .exact hi
   .rw[Bs (by simpa using hi)]at h2;rw[List.getElem?_replicate]at h2;split at h2 <;> cases h2
  have ha:vs[i]?=some v:=by
   unfold start at h2;rw[BA (by simpa using hi),A8]at h2
   cases e:vs[i]? with
   |none=>rw[e]at h2;cases h2
   |some a=>rw[e]at h2;cases h2;rfl
  obtain⟨u,hu,rv⟩:=r.get ha
  have hp:ps[i]?=some y:=by rw[<- S.pre,List.getElem?_take_of_lt (by lia)];exact h1
  have ndP:ps.Nodup:=by rw[<- S.pre];exact S.nd.sublist (List.take_sublist _ _)
  refine⟨u,rv,?_⟩;rcases S.par y (AQ hp) with k |k
  .exact .inl ⟨k,ze7 ndP hp hu k⟩
  .obtain⟨c,e⟩:=zfY (n:=s.heap.objs.size+1) k;refine .inr ⟨.inl k,c,e,?_⟩;have q:=x.cell y c e;rw[ze9 ndP hp hu (by show scope.names.lookup y≠_;rw[k];decide)]at q;exact q
 .exact e0.hok.fresh (Nat.le_of_lt (x.above y c (B5 h)))
 .unfold start;show _=N.length;rw[At,Ae,List.length_replicate];lia
theorem fn_of{CX:CXT}{P:Am}{w:AB}{K:W.Frag}{mg:Str -> Option Value}{base:Heap}{k:Nat}{f:Addr}{name qual:Str}{params:Arguments}{body:List Stmt}{scope:Scope}{dV kV doc pm cdv ct oc:Value}{an od:Option Addr}
  {osl:Array (Option Value)} {N ps:List Str} {sp:Sp} (lk:K.lookup f=some ⟨oc,od,.func (C8 name qual params body scope dV kV doc pm an cdv ct),osl⟩) (hcd:W.codeIn K cdv qual=true) (S:FnScope N ps scope)
  (len:∀vs H Q E,sp vs H Q E->vs.length=ps.length)
  (hbody:∀(A:Aw) (outer:List Env) (s:Ab) (H:Hp) (vs:List V) (Q:VK) (E:XK),Room k (A.deeper (envOfC qual scope s.heap.objs.size f cdv))->sp vs H Q E ->
   ∃t,PSs (cxOf CX P w K mg base N qual scope f cdv A outer s H E) body t/\t { nx:=λ_ H'=>Q .non H',rt:=Q } (start N vs) H) :
  FnOk P w K mg base CX (k+1) f (C8 name qual params body scope dV kV doc pm an cdv ct) ps sp:=by
 refine⟨len,λA outer s H args us vs Q E hr e0 hb r hsp=>?_⟩;have hl:=len _ _ _ _ hsp;have KX:K.In s.heap:=e0.mod.kin.keeps λb o e=>(e0.bs b o e).1
 have lim:s.heap.NoLimit:=e0.mod.nolimit.keeps λb o e=>(e0.bs b o e).1
 have hkind:∀y∈ps.zip us,scope.names.lookup y.1=some .local∨(scope.names.lookup y.1=some .cell/\((cellsFrom (s.heap.objs.size+1) scope.names []).lookup y.1).isSome=true):=λ⟨n,v⟩ hy=>by
  rcases S.par n (List.of_mem_zip hy).1 with q |q
  .exact .inl q
  .exact .inr ⟨q,W.cellsFrom_some _ _ _ (.inl q)⟩
 refine codeAny_call_function hr.depth (KX _ _ lk) rfl S.co S.gen rfl (W.codeRec_of KX hcd) (hb _ _ _ _ ?_);refine wpAny_newFunctionEnv_cells S.kind hkind λenv he s1 x=>?_
 subst he;refine⟨lim.keeps x.toInCall.keep,codeAny_func ?_⟩;obtain⟨t,ht,hq⟩:=hbody A outer s H vs Q E (hr.deeper _) hsp;have I:Inv (cxOf CX P w K mg base N qual scope f cdv A outer s H E) [] (start N vs) H s1:=zhb S hr.hd e0 hl r x;refine BR (ht [] s1 (start N vs) H _ I hq) (λfl s' hs=>?_) λe s' hs=>hs
 have fin:∀{σ':St} {H':Hp} {v:V} {u:Value},Inv (cxOf CX P w K mg base N qual scope f cdv A outer s H E) [] σ' H' s'->RelV v u->Q v H'->CE outer P w H s Q u s' :=
  λ{σ' H' v u} J rv q=>⟨v,H',J.os,J.bare,J.base,J.hok,rv,q⟩
 cases fl with
 |ret u =>
  obtain⟨v,σ',H',J,rv,q⟩:=hs;exact fin J rv q
 |next =>
  obtain⟨σ',H',J,q⟩:=hs;exact fin (v:=V.non) (u:=BQ) J rfl q
 |brk =>
  obtain⟨_,_,_,q⟩:=hs;exact Bj q
 |cont =>
  obtain⟨_,_,_,q⟩:=hs;exact Bj q
section
variable {X:Cx}{x:Str}{p pos:Pos}{e:Expr}{es:List Expr}{t:TA}{id T:String}{r:List V->Hp->VK->Prop}
noncomputable def tCB(r:List V->Hp->VK->Prop)(t:TA):TE:=λσ H Q=>t σ H λvs H1=>r vs H1 Q
theorem zah (hc:CallR X (.builtin id) r) (hg:Gl X x) (hm:X.mg x=none) (hv:bootBuiltins x=some (.builtin id)) (ha:PA X (e :: es) t) (hn:x ≠ "__name__" := by decide) (hdb:(x == ("__debug__" : Str))=false := by decide)
  (he:AA (e::es) X.env=(false,eval e X.env)::AA es X.env:=by rfl) (hpl:(CB pos (AA es X.env)).any (·.1)=false:=by rfl):PE X (.Call (.Name x p) (e::es) [] pos) (tCB r t):=by
 intro pins s σ H Q I h;refine BF (zbW I hg hm hv ?_ hn hdb);exact PyProof.Rows.callWith_builtin1 (thn (ha pos pins s σ H _ I h) λus s1 ⟨vs,H1,I1,r1,q1⟩=>hc pins s1 σ H1 vs us Q I1 r1 q1) he hpl
theorem zbj (hc:CallR X (.type T) r) (hg:Gl X x) (hm:X.mg x=none) (hv:bootBuiltins x=some (.type T)) (ha:PA X (e :: es) t) (hn:x ≠ "__name__" := by decide) (hdb:(x == ("__debug__" : Str))=false := by decide)
  (he:AA (e::es) X.env=(false,eval e X.env)::AA es X.env:=by rfl) (hpl:(CB pos (AA es X.env)).any (·.1)=false:=by rfl):PE X (.Call (.Name x p) (e::es) [] pos) (tCB r t):=by
 intro pins s σ H Q I h;refine BF (zbW I hg hm hv ?_ hn hdb);exact AV (thn (ha pos pins s σ H _ I h) λus s1 ⟨vs,H1,I1,r1,q1⟩=>hc pins s1 σ H1 vs us Q I1 r1 q1) he hpl
end
section
variable {κ:Type} [DecidableEq κ]
noncomputable def valV(kvs:List (κ×V))(k:κ):Option V:=(kvs.find? λkv=>decide (kv.1=k)).map (·.2)
noncomputable def putK(kvs:List (κ×V))(k:κ)(v:V):List (κ×V) :=
 if (kvs.any λkv=>decide (kv.1=k))=true then kvs.map (λkv=>if kv.1=k then (kv.1,v) else kv) else kvs++[(k,v)]
theorem zaU{p:κ×V}{r:List (κ×V)}{k:κ}(e:p.1=k):valV (p::r) k=some p.2:=by simp[valV,CJ,e]
theorem zaR{p:κ×V}{r:List (κ×V)}{k:κ}(e:¬ p.1=k):valV (p::r) k=valV r k:=by simp[valV,CJ,e]
theorem zc0(k:κ):∀kvs:List (κ×V),(kvs.any λkv=>decide (kv.1=k))=(valV kvs k).isSome
 |[]=>rfl
 |p::r=>by
  rw[List.any_cons]
  by_cases e:p.1=k
  .simp only[zaU e,decide_eq_true e,Bool.true_or,Option.isSome_some]
  .rw[zaR e,decide_eq_false e,Bool.false_or];exact zc0 k r
theorem zfw(k j:κ)(y:V):∀kvs:List (κ×V),valV (kvs.map λkv=>if kv.1=k then (kv.1,y) else kv) j=(valV kvs j).map λx=>if j=k then y else x
 |[]=>rfl
 |p::r=>by
  have ih:=zfw k j y r;rw[AZ]
  by_cases h:p.1=k
  .rw[if_pos h]
   by_cases e:p.1=j
   .rw[zaU (p:=(p.1,y)) e,zaU e,Option.map_some,if_pos (e.symm.trans h)]
   .rw[zaR (p:=(p.1,y)) e,zaR e,ih]
  .rw[if_neg h]
   by_cases e:p.1=j
   .rw[zaU (p:=p) e,zaU e,Option.map_some,if_neg (λz=>h (e.trans z))]
   .rw[zaR (p:=p) e,zaR e,ih]
theorem zet(k j:κ)(y:V):∀kvs:List (κ×V),valV kvs k=none->valV (kvs++[(k,y)]) j=if j=k then some y else valV kvs j
 |[],_=>by
  by_cases e:k=j
  .rw[if_pos e.symm];exact zaU (p:=(k,y)) e
  .rw[if_neg (λz=>e z.symm)];exact zaR (p:=(k,y)) e
 |p::r,hn=>by
  rw[List.cons_append];have hk:¬ p.1=k:=λz=>by rw[zaU z]at hn;cases hn
  rw[zaR hk]at hn;have ih:=zet k j y r hn
  by_cases e:p.1=j
  .rw[zaU e,zaU e,if_neg (λz=>hk (e.trans z))]
  .rw[zaR e,zaR e,ih]
theorem zhB(kvs:List (κ×V))(k j:κ)(y:V):valV (putK kvs k y) j=if j=k then some y else valV kvs j:=by
 unfold putK
 by_cases a:(kvs.any λkv=>decide (kv.1=k))=true
 .rw[if_pos a,zfw];rw[zc0]at a
  by_cases e:j=k
  .obtain⟨x,hx⟩:=Option.isSome_iff_exists.mp a;rw[if_pos e,e,hx,Option.map_some,if_pos rfl]
  .rw[if_neg e]
   cases valV kvs j with
   |none=>rfl
   |some x=>rw[Option.map_some,if_neg e]
 .rw[if_neg a];refine zet k j y kvs ?_
  rw[zc0]at a
  cases q:valV kvs k with
  |none=>rfl
  |some x=>rw[q]at a;exact (a rfl).elim
theorem zbs(kvs:List (κ×V))(k:κ)(v:V):(putK kvs k v).length<=kvs.length+1:=by
 unfold putK;split
 .rw[Ae];lia
 .rw[At,AD,Bv];lia
theorem RelO.isSome_eq{o:Option V}{u:Option Value}(r:RelO o u):o.isSome=u.isSome:=by
 cases o with
 |none=>cases u with
  |none=>rfl
  |some _=>exact (show False from r).elim
 |some _=>cases u with
  |none=>exact (show False from r).elim
  |some _=>rfl
theorem KV.val{kvs:List (κ×V)}{vs:List (κ×Value)}(r:KV kvs vs)(k:κ):RelO (valV kvs k) (valueAt vs k):=by
 unfold KV at r
 induction r with
 |nil=>exact BS
 |@cons p q ps qs h t ih =>
  obtain⟨h1,h2⟩:=h
  by_cases e:p.1=k
  .have e':q.1=k:=h1.symm.trans e;have b:valueAt (q::qs) k=some q.2:=by simp[valueAt,CJ,e']
   rw[zaU e,b];exact h2
  .have e':¬ q.1=k:=λz=>e (h1.trans z)
   have b:valueAt (q::qs) k=valueAt qs k:=by simp[valueAt,CJ,e']
   rw[zaR e,b];exact ih
theorem KV.any{kvs:List (κ×V)}{vs:List (κ×Value)}(r:KV kvs vs)(k:κ):(kvs.any λkv=>decide (kv.1=k))=vs.any λkv=>decide (kv.1=k):=by
 unfold KV at r
 induction r with
 |nil=>rfl
 |cons h t ih=>rw[List.any_cons,List.any_cons,ih,h.1]
theorem KV.repl{kvs:List (κ × V)}{vs:List (κ × Value)}(r:KV kvs vs)(k : κ){y:V}{u:Value}(ry:RelV y u) :
  KV (kvs.map λkv=>if kv.1=k then (kv.1,y) else kv) (vs.map λkv=>if kv.1=k then (kv.1,u) else kv):=by
 unfold KV at r ⊢
 induction r with
 |nil=>exact .nil
 |@cons p q ps qs h t ih =>
  rw[AZ,AZ];refine .cons ?_ ih;obtain⟨h1,h2⟩:=h
  by_cases e:p.1=k
  .rw[if_pos e,if_pos (h1.symm.trans e)];exact⟨h1,ry⟩
  .rw[if_neg e,if_neg (λz=>e (h1.trans z))];exact⟨h1,h2⟩
theorem KV.put{kvs:List (κ×V)}{vs:List (κ×Value)}(r:KV kvs vs)(k:κ){y:V}{u:Value}(ry:RelV y u):KV (putK kvs k y) (stored vs k u):=by
 unfold putK stored;rw[r.any k]
 by_cases e:(vs.any λkv=>decide (kv.1=k))=true
 .rw[if_pos e,if_pos e];exact r.repl k ry
 .rw[if_neg e,if_neg e];exact Paired.snoc r ⟨rfl,ry⟩
theorem KV.length{kvs:List (κ×V)}{vs:List (κ×Value)}(r:KV kvs vs):kvs.length=vs.length:=Paired.length r
end
theorem kV_is{P:Am}{w:AB}{k:Key}{u:Value}(r:RelV (kV k) u):(zaP P w).is k u=true:=by
 cases k with
 |inl i=>obtain⟨t,e⟩:=(show ∃t,u=Value.int i t from r);subst e;exact zfo P w i t
 |inr x=>obtain⟨t,e⟩:=(show ∃t,u=Value.str x t from r);subst e;exact zbO P w x t
theorem zeR{P:Am}{w:AB}:∀{ks:List Key}{us:List Value},Vals (ks.map kV) us->ItemsAre (zaP P w) ks us
 |[],_,r=>by rw[List.map_nil]at r;cases r;exact .nil
 |k::ks,_,r=>by
  rw[AZ]at r
  cases r with
  |cons h t=>exact .cons (kV_is h) (zeR t)
noncomputable abbrev KT(H:Hp):List (List Key×V)->List (List Key×Addr×Value)->Prop:=Paired λp q=>p.1=q.1/\H q.2.1=some (.tup (p.1.map kV))/\RelV p.2 q.2.2
theorem KT.val{H:Hp}{kvs:List (List Key×V)}{xs:List (List Key×Addr×Value)}(r:KT H kvs xs)(k:List Key):RelO (valV kvs k) ((atKey xs k).map (·.2)):=by
 induction r with
 |nil=>exact BS
 |@cons p q ps qs h t ih =>
  obtain⟨h1,_,h2⟩:=h
  by_cases e:p.1=k
  .have e':q.1=k:=h1.symm.trans e;have b:atKey (q::qs) k=some q.2:=by simp[atKey,CJ,e']
   rw[zaU e,b];exact h2
  .have e':¬ q.1=k:=λz=>e (h1.trans z)
   have b:atKey (q::qs) k=atKey qs k:=by simp[atKey,CJ,e']
   rw[zaR e,b];exact ih
theorem KT.repl{H:Hp}{kvs:List (List Key × V)}{xs:List (List Key × Addr × Value)}(r:KT H kvs xs)(k:List Key){y:V}{u:Value}(ry:RelV y u) :
  KT H (kvs.map λkv=>if kv.1=k then (kv.1,y) else kv) (xs.map (putAt k u)):=by
 induction r with
 |nil=>exact .nil
 |@cons p q ps qs h t ih =>
  rw[AZ,AZ];refine .cons ?_ ih;obtain⟨h1,h2,h3⟩:=h;unfold putAt
  by_cases e:p.1=k
  .rw[if_pos e,if_pos (h1.symm.trans e)];exact⟨h1,h2,ry⟩
  .rw[if_neg e,if_neg (λz=>e (h1.trans z))];exact⟨h1,h2,h3⟩
theorem KT.put{H:Hp}{kvs:List (List Key × V)}{xs:List (List Key × Addr × Value)}(r:KT H kvs xs)(k:List Key){b:Addr}{y:V}{u:Value}(hb:H b=some (.tup (k.map kV)))(ry:RelV y u) :
  KT H (putK kvs k y) (storedH xs k b u):=by
 have e:(kvs.any λkv=>decide (kv.1=k))=(atKey xs k).isSome:=by rw[zc0,(r.val k).isSome_eq,Option.isSome_map]
 unfold putK storedH;rw[e]
 by_cases q:(atKey xs k).isSome=true
 .rw[if_pos q,if_pos q];exact r.repl k ry
 .rw[if_neg q,if_neg q];exact Paired.snoc r ⟨rfl,hb,ry⟩
theorem KT.keeps{H H':Hp}{kvs:List (List Key×V)}{xs:List (List Key×Addr×Value)}(r:KT H kvs xs)(ht:∀b ys,H b=some (.tup ys)->H' b=some (.tup ys)):KT H' kvs xs :=
 Paired.mapP r λ_ _ z=>⟨z.1,ht _ _ z.2.1,z.2.2⟩
section
variable {P:Am}{w:AB}{H:Hp}{h:Heap}{a:Addr}
theorem rd_of{u:HO}(ok:HOk P w H h)(e:Rd H a u):ObjOk P w H h a u:=e.ok ok
theorem dk_rd{kvs:List (Key×V)}(ok:HOk P w H h)(e:Rd H a (.dK kvs)):kvs.length<=sizeLine/\(a == CA)=false/\∃vs,KV kvs vs/\h.DictOf (zaP P w) a vs :=
 show ObjOk P w H h a (.dK kvs) from rd_of ok e
theorem dk_of{kvs:List (Key×V)}(ok:HOk P w H h)(e:H a=some (.dK kvs)):kvs.length<=sizeLine/\(a == CA)=false/\∃vs,KV kvs vs/\h.DictOf (zaP P w) a vs:=dk_rd ok (.inl e)
theorem zfQ{ks:List Key}(ok:HOk P w H h)(e:H a=some (.tup (ks.map kV))):(tupleKind (zaP P w)).is h ks a:=by obtain⟨_,its,r,o,h1,h2,n,h3⟩:=(show ObjOk P w H h a (.tup (ks.map kV)) from ok a _ e);exact⟨o,its.toArray,n,h1,h2,h3,by simpa using zeR r⟩
theorem dt_rd{kvs:List (List Key × V)}(ok:HOk P w H h)(e:Rd H a (.dT kvs)):kvs.length <= sizeLine /\ (a == CA)=false /\
  ∃xs,KT H kvs xs/\h.DictOfH (tupleKind (zaP P w)) a xs:=by
 obtain⟨z,y,xs,r,o,es,ep,h1,h2,h3,h4,h5⟩:=(show ObjOk P w H h a (.dT kvs) from rd_of ok e);refine⟨z,y,xs,r,o,es,ep,h1,h2,h3,h4,λx hx=>?_,h5⟩
 have all:∀{l:List (List Key×V)} {m:List (List Key×Addr×Value)},KT H l m->∀x∈m,(tupleKind (zaP P w)).is h x.1 x.2.1:=by
  intro l m q
  induction q with
  |nil=>intro x hx;exact nomatch hx
  |@cons p q ps qs hq t ih =>
   intro x hx;rcases Ax.mp hx with e |hx
   .subst e;exact zfQ ok (by rw[<- hq.1];exact hq.2.1)
   .exact ih x hx
 exact all r x hx
theorem dt_of{kvs:List (List Key × V)}(ok:HOk P w H h)(e:H a=some (.dT kvs)):kvs.length <= sizeLine /\ (a == CA)=false /\
  ∃xs,KT H kvs xs/\h.DictOfH (tupleKind (zaP P w)) a xs:=dt_rd ok (.inl e)
end
noncomputable def DGet(H:Hp)(a:Addr)(y:V)(r:Option V):Prop :=
 (∃kvs k,Rd H a (.dK kvs)/\y=kV k/\r=valV kvs k)∨∃kvs k b,Rd H a (.dT kvs)/\y=.ref b/\H b=some (.tup (k.map kV))/\r=valV kvs k
noncomputable def DPut(H:Hp)(a:Addr)(y v:V)(H':Hp):Prop :=
 (∃kvs k,H a=some (.dK kvs)/\y=kV k/\kvs.length<sizeLine/\H'=upd H a (.dK (putK kvs k v))) ∨
 ∃kvs k b,H a=some (.dT kvs)/\y=.ref b/\H b=some (.tup (k.map kV))/\kvs.length<sizeLine/\H'=upd H a (.dT (putK kvs k v))
section
variable {X:Cx}{pins:List (Addr×Obj)}{σ:St}{H:Hp}{s:Ab}{a:Addr}{y v:V}{u r:Value}{o:Option V}{A:Aw}{E:Value->Ab->Prop}
theorem Inv.big(I:Inv X pins σ H s):CA<s.heap.objs.size:=by have h:Au<s.heap.objs.size:=(I.mod.glob.keeps I.bk).lt;exact Nat.lt_trans (by decide) h
theorem d_in{Q:Value -> Ab -> Prop}(hu:A.units + 1 < cLine)(I:Inv X pins σ H s)(g:DGet H a y o)(ry:RelV y u)(h:∀s', Inv X pins σ H s' -> Q (.bool o.isSome) s') :
  Aq (Ap X.prog X.w) A (Bp .In u (.ref a)) Q E s:=by
 rcases g with⟨kvs,k,e,ey,l⟩ |⟨kvs,k,b,e,ey,eb,l⟩
 .subst ey;obtain⟨z,hd,vs,rel,dd⟩:=dk_rd I.hok e;refine wpAny_in_of (kV_is ry) hd dd.mapOf ?_
  rw[<- (rel.val k).isSome_eq,<- l];exact h _ (I.tok _)
 .subst ey
  cases (show u=AM b from ry)
  obtain⟨z,hd,xs,rel,dd⟩:=dt_rd I.hok e;refine wpAny_in_heap (tupleKind_room_in1 hu) (zfQ I.hok eb) hd dd ?_
  have q:=(rel.val k).isSome_eq;rw[Option.isSome_map]at q;rw[<- q,<- l];exact h _ (I.tok _)
theorem zej{h':Heap}{t':Nat}{ob:HO}(I:Inv X pins σ H s)(mu:Mut (H a))(hs:BK a s.heap h')(he:∃q, h'.get? a=some q)(new:ObjOk X.prog X.w (upd H a ob) h' a ob) :
  Inv X pins σ (upd H a ob) { s with heap:=h',toks:=t' } :=
 I.write (x:=a) (e:=a) mu (.inl rfl) (λb q hb z=>(hs.2 b hb).trans z) he new
theorem ziC{P:Am}{w:AB}{H':Hp}{h':Heap}{kvs:List (Key × V)}{vs:List (Key × Value)}(z:kvs.length <= sizeLine)(hd:(a == CA)=false)(rel:KV kvs vs)(dd:h'.DictOf (zaP P w) a vs) :
  ObjOk P w H' h' a (.dK kvs):=⟨z,hd,vs,rel,dd⟩
theorem zho{H':Hp}{Q:Unit -> Ab -> Prop}(hu:A.units + 1 < cLine)(I:Inv X pins σ H s)(g:DPut H a y v H')(ry:RelV y u)(rv:RelV v r)(h:∀s', Inv X pins σ H' s' -> Q () s') :
  Aq (Ap X.prog X.w) A (setItem (.ref a) u r) Q E s:=by
 rcases g with⟨kvs,k,e,ey,l,eH⟩ |⟨kvs,k,b,e,ey,eb,l,eH⟩
 .subst ey eH;obtain⟨z,hd,vs,rel,dd⟩:=dk_of I.hok e;have hz:vs.length<=sizeLine:=by rw[<- rel.length];exact z
  have hl:(putK kvs k v).length<=sizeLine:=by have:=zbs kvs k v;lia
  refine wpAny_setItem_pairs (hsz:=hz) (kV_is ry) dd λh' dd' hs=>h _ ?_
  have he:∃q,h'.get? a=some q:=let ⟨q,_,_,hq,_⟩:=dd';⟨q,hq⟩
  exact zej I (by rw[e];exact BS) hs he (ziC hl hd (rel.put k rv) dd')
 .subst ey eH
  cases (show u=AM b from ry)
  obtain⟨z,hd,xs,rel,dd⟩:=dt_of I.hok e;have hz:xs.length<=sizeLine:=by rw[<- Paired.length rel];exact z
  have hl:(putK kvs k v).length<=sizeLine:=by have:=zbs kvs k v;lia
  refine wpAny_setItem_heap (hsz:=hz) (tupleKind_room_in1 hu) (zfQ I.hok eb) dd λh' dd' hs=>h _ ?_
  obtain⟨q,es,ep,hq,h2,h3,h4,_,h5⟩:=dd';refine zej I (by rw[e];exact BS) hs ⟨q,hq⟩ ⟨hl,hd,_,(rel.put k eb rv).keeps λc ys ec=>?_,q,es,ep,hq,h2,h3,h4,h5⟩;rw[zam (ne_of ec e (λz=>nomatch z))];exact ec
end
section
variable {X:Cx}{pins:List (Addr×Obj)}{σ:St}{H:Hp}{s:Ab}{a:Addr}{kvs:List (Key×V)}{k:Key}{u:Value}{A:Aw}{E:Value->Ab->Prop}
end
noncomputable def NoSl(i:Expr):Prop:=∀ov iv,subscripted i false ov iv=operate [ov,iv] (getItem ov iv)
theorem ziJ{prog:Am}{w:AB}{A:Aw}{E:Value -> Ab -> Prop}{s:Ab}{env:Env}{value slice:Expr}{pos:Pos}{T id:String}{Q:Value -> Ab -> Prop}
  (hl:typeLookup (.type T) "__getitem__" = pure (some (.builtin id))) (hs:NoSl slice)
  (h:Aq (Ap prog w) A (eval value env) (λo s₁=>Aq (Ap prog w) A (eval slice env) (λi s₂=>s₂.TypeIs o T/\Aq (Ap prog w) A (getItem o i) Q E s₂) E s₁) E s) :
  Aq (Ap prog w) A (eval (.Subscript value slice pos) env) Q E s:=by
 refine Subscript_ (BR h (λo s₁ h₁=>BR h₁ (λi s₂ h₂=>?_) λ_ _ x=>x) λ_ _ x=>x);obtain⟨hT,h₂⟩:=h₂;unfold subscriptTail;refine Ac ?_
 rw[getitemInPython_of_ne hT.not_modules];refine Ac (wpAny_specialOf hT hl ?_)
 have fin:Aq (Ap prog w) A (subscripted slice false o i) (λr s₃=>Aq (Ap prog w) A (letTemporaryGo value o r >>= λ_=>pure r) Q E s₃) E s₂:=by rw[hs o i];exact wpAny_operating (BR h₂ (λr s₃ h₃=>Ac (wpAny_letTemporaryGo (As h₃))) λ_ _ x=>x)
 first
  |exact As (Ac fin)
  |exact Ac (As (Ac fin))
  |exact Ac fin
noncomputable def tDIn(ty td:TE):TE:=λσ H Q=>ty σ H λy H1=>td σ H1 λx H2=>∃a o,x=.ref a/\DGet H2 a y o/\Q (.bl o.isSome) H2
noncomputable def sDPut(td ty tv:TE):TS:=λD σ H=>tv σ H λv H1=>td σ H1 λx H2=>ty σ H2 λy H3=>∃a H4,x=.ref a/\DPut H3 a y v H4/\D.nx σ H4
section
variable {X:Cx}{o i e value:Expr}{pos pos' tpos:Pos}{td ty tv:TE}
theorem zir(hu:X.A.units+1<cLine)(hi:PE X i ty)(ho:PE X o td):PC X .In i o (tDIn ty td):=by
 intro pins s σ H Q I h;refine thn (hi pins s σ H _ I h) λiv s1 ⟨y,H1,I1,ry,q1⟩=>thn (ho pins s1 σ H1 _ I1 q1) λu s2 ⟨x,H2,I2,rx,a,ov,ex,g,q2⟩=>?_
 subst ex;obtain rfl:u=AM a:=rx;exact d_in hu I2 g ry λs3 I3=>⟨.bl ov.isSome,H2,I3,rfl,q2⟩
theorem ziY(hu:X.A.units + 1 < cLine)(ho:PE X o td)(hi:PE X i ty)(hv:PE X value tv)(hs:swapsWith value (some (.Subscript o i pos')) pos.line X.env=pure false) :
  PS X (.Assign [.Subscript o i pos'] value pos) (sDPut td ty tv):=by
 intro pins s σ H D I h;refine wpAny_Assign_Subscript (thn (hv pins s σ H _ I h) λr s1 ⟨v,H1,I1,rv,q1⟩=>thn (ho pins s1 σ H1 _ I1 q1) λu s2 ⟨x,H2,I2,rx,q2⟩=>thn (hi pins s2 σ H2 _ I2 q2) λiv s3 ⟨y,H3,I3,ry,a,H4,ex,g,q3⟩=>?_) hs;subst ex;obtain rfl:u=AM a:=rx;exact zho hu I3 g ry rv λs4 I4=>⟨σ,H4,I4,q3⟩
end
theorem zfW {P:Am}{w:AB}{H:Hp}(h:Heap) (hb:CA<h.objs.size):ObjOk P w H (h.push { cls:=.type "dict",data:=.dict #[] }) h.objs.size (.dT []) :=
 ⟨A1 _,beq_eq_false_iff_ne.mpr (BJ (AS hb)),[],.nil,_,#[],0,Ar _ rfl,⟨rfl,rfl,rfl⟩,rfl,rfl,List.nodup_nil⟩
noncomputable def zjC:TE:=λ_ H Q=>∀p,H p=none->Q (.ref p) (upd H p (.dT []))
section
variable {X:Cx}{pos:Pos}
theorem zhP:PE X (.Dict [] [] pos) zjC:=λpins s σ H Q I h =>
 wpAny_Dict_empty ⟨.ref s.heap.objs.size,_,I.laid (a:=s.heap.objs.size) (o:=.dT []) (t':=s.toks) (λ_ _ q=>Ag _ q) (Ai _) (zfW s.heap I.big),rfl,h _ (I.hok.fresh (Ai _))⟩
end
structure M1 (X:Cx) (o:Expr) (m:Str) (apos:Pos) (e:Expr) (cpos:Pos):Prop where
 base:Dd o m X.env (eval o X.env)=eval o X.env
 few:((CB cpos (AA [e] X.env)).all (λx=>!x.1) && (backToKw cpos (keywordEach [] X.env)).all (λx=>x.1.isSome)
  && decide (([e]:List Expr).length+([]:List Keyword).length+(if ([]:List Keyword).isEmpty then 0 else 1)<30))=true
 line:(apos.endLine == cpos.line)=true
 trees:CB cpos (AA [e] X.env)=[(false,eval e X.env)]
structure M2 (X:Cx) (o:Expr) (m:Str) (apos:Pos) (e f:Expr) (cpos:Pos):Prop where
 base:Dd o m X.env (eval o X.env)=eval o X.env
 few:((CB cpos (AA [e,f] X.env)).all (λx=>!x.1) && (backToKw cpos (keywordEach [] X.env)).all (λx=>x.1.isSome)
  && decide (([e,f]:List Expr).length+([]:List Keyword).length+(if ([]:List Keyword).isEmpty then 0 else 1)<30))=true
 line:(apos.endLine == cpos.line)=true
 trees:CB cpos (AA [e,f] X.env)=[(false,eval e X.env),(false,eval f X.env)]
section
variable {X:Cx}{pins:List (Addr×Obj)}{σ:St}{H:Hp}{s:Ab}{a:Addr}{y d:V}{u r:Value}{o:Option V}{A:Aw}{E:Value->Ab->Prop}
end
section
variable {X:Cx}{o e f:Expr}{apos cpos:Pos}{td ty tx:TE}
end
section
variable {X:Cx}{pins:List (Addr×Obj)}{σ:St}{H:Hp}{s:Ab}{a:Addr}{kvs:List (Key×V)}{A:Aw}{E:Value->Ab->Prop}
end
section
variable {X:Cx}{pins:List (Addr×Obj)}{σ:St}{H:Hp}{s:Ab}{a:Addr}{y:V}{u:Value}{A:Aw}{E:Value->Ab->Prop}
end
end L2
namespace HT
open PySem PyProof.Rows
noncomputable def lexLt:List Int->List Int->Bool
 |[],[]=>false
 |[],_::_=>true
 |_::_,[]=>false
 |x::xs,y::ys=>if x=y then lexLt xs ys else decide (x<y)
theorem lexLt_cons(x y:Int)(xs ys:List Int):lexLt (x::xs) (y::ys)=if x=y then lexLt xs ys else decide (x<y):=rfl
theorem zh4(A:Aw)(s:Ab)(a:Int)(t:Tok)(c:Int)(u:Tok):∃e,SeqAt.EqAt A s (.int a t) (.int c u) e/\(e=true ↔ a=c) :=
 ⟨(a == c),SeqAt.EqAt.int_int a t c u,by simp⟩
section
open PySem.SeqAt
open PySem.AutoSeq1 (wpAny_loadPart')
open PySem.MeetsSeq PySem.MeetsSeq2 PySem.MeetsSeq3
end
section
variable {prog:Am}{w:AB}{A:Aw}{E:Value->Ab->Prop}{s:Ab}
theorem cat_tup{t b:Addr}{vs ws:List Value}{Q:Value -> Ab -> Prop}(ht:IsTup s.heap t vs.toArray)(hb:IsTup s.heap b ws.toArray)(hv:vs ≠ [])
  (h1:ws=[]->Q (.ref t) s) (h2:ws≠[]->Q (.ref s.heap.objs.size) { s with heap:=s.heap.push { cls:=.type "tuple",data:=.seq (vs++ws).toArray } })
  (hsz:vs.length+ws.length<=sizeLine):Aq (Ap prog w) A (Cu .Add (.ref t) (.ref b)) Q E s:=by
 obtain⟨⟨cls,dd,data,sl⟩,ho,hc,n,hd⟩:=id ht;obtain⟨⟨cls2,dd2,data2,sl2⟩,ho2,hc2,n2,hd2⟩:=id hb;simp only at hc hd hc2 hd2;subst hc hd hc2 hd2;have e:vs.toArray++ws.toArray=(vs++ws).toArray:=by simp
 by_cases hw:ws=[]
 .exact concat_meets ⟨_, ho, rfl⟩ ⟨_, ho2, rfl⟩ noFill_tuple_add seq_tuple_add PySem.F.slot_tuple_add PySem.F.entry_tuple_add (PySem.F.args_tuple_add_2 _ _)
   (tuple_addW1 t b vs.toArray ws.toArray n n2 dd dd2 sl sl2 (by simpa using hv) (by simp[hw])) ⟨ho,ho2,h1 hw⟩
 .refine concat_meets ⟨_, ho, rfl⟩ ⟨_, ho2, rfl⟩ noFill_tuple_add seq_tuple_add PySem.F.slot_tuple_add PySem.F.entry_tuple_add (PySem.F.args_tuple_add_2 _ _)
   (tuple_addW2 t b vs.toArray ws.toArray n n2 dd dd2 sl sl2 (by simpa using hv) (by simpa using hw) (by rw[Az,Az];exact hsz)) ⟨ho,ho2,?_⟩
  rw[e];exact h2 hw
noncomputable def sIx(n d:Nat):Option Int->Nat
 |none=>d
 |some v=>if v<0 then (v+(n:Int)).toNat else min v.toNat n
theorem sIx_none(n d:Nat):sIx n d none=d:=rfl
theorem sIx_nat(n d k:Nat):sIx n d (some (k:Int))=min k n:=by show (if (k:Int)<0 then ((k:Int)+(n:Int)).toNat else min (k:Int).toNat n)=min k n;rw[if_neg (by lia),BY]
end
end HT
namespace L2
open PySem PySem.Spec PyProof.Rows
noncomputable abbrev TO:=St->Hp->(Option Int->Hp->Prop)->Prop
noncomputable def PO(X:Cx)(e:Option Expr)(t:TO):Prop :=
 ∀(pins:List (Addr×Obj)) (s:Ab) (σ:St) (H:Hp) (Q:Option Int->Hp->Prop),Inv X pins σ H s->t σ H Q ->
  Aq (Ap X.prog X.w) X.A (evalPart e X.env) (λu s'=>∃o H',Inv X pins σ H' s'/\IsPart u o/\Q o H') X.xe s
noncomputable def zav:TO:=λ_ H Q=>Q none H
noncomputable def tPart(t:TE):TO:=λσ H Q=>t σ H λx H1=>∃i,x=.int i/\Q (some i) H1
theorem zdT{ns:List Int}:∀{us:List Value},Vals (ns.map V.int) us->C1 us ns:=by
 induction ns with
 |nil=>intro us r;rw[List.map_nil]at r;cases r;exact .nil
 |cons n ns ih =>
  intro us r;rw[AZ]at r
  cases r with
  |cons r1 r2 =>
   obtain⟨t,e⟩:=r1;subst e;exact .cons n t (ih r2)
section
variable {X:Cx}{e:Expr}{te:TE}{lo hi:Option Expr}{tl th:TO}{pos p2:Pos}
theorem zaE:PO X none zav:=by intro pins s σ H Q I h;rw[evalPart_none];exact As ⟨none,H,I,.none,h⟩
theorem zaD(h:PE X e te):PO X (some e) (tPart te):=by
 intro pins s σ H Q I hw;rw[evalPart_some];refine thn (h pins s σ H _ I hw) λu s1 ⟨x,H1,I1,r1,q1⟩=>?_
 obtain⟨i,rfl,q⟩:=q1;obtain⟨t,rfl⟩:=r1;exact⟨some i,H1,I1,.int i t,q⟩
noncomputable def SlR(X:Cx)(r:V->Option Int->Option Int->Hp->VK->Prop):Prop :=
 ∀(pins:List (Addr×Obj)) (s:Ab) (σ:St) (H:Hp) (x:V) (v vl vu:Value) (lo hi:Option Int) (sl:Addr) (Q:VK),Inv X pins σ H s->RelV x v->s.heap.IsSliceOf sl vl vu .none->IsPart vl lo->IsPart vu hi->r x lo hi H Q ->
  ∃T id,typeLookup (.type T) "__getitem__" = pure (some (.builtin id))/\s.TypeIs v T/\Aq (Ap X.prog X.w) X.A (getItem v (.ref sl)) (EP X pins σ Q) X.xe s
noncomputable def tSl(r:V->Option Int->Option Int->Hp->VK->Prop)(te:TE)(tl th:TO):TE:=λσ H Q=>te σ H λx H1=>tl σ H1 λl H2=>th σ H2 λu H3=>r x l u H3 Q
theorem zau{r:V->Option Int->Option Int->Hp->VK->Prop}(hr:SlR X r)(he:PE X e te)(hl:PO X lo tl)(hu:PO X hi th):PE X (.Subscript e (.Slice lo hi none p2) pos) (tSl r te tl th):=by
 intro pins s σ H Q I h;refine Subscript_ (thn (he pins s σ H _ I h) λv s1 ⟨x,H1,I1,r1,q1⟩=>?_);refine wpAny_Slice (thn (hl pins s1 σ H1 _ I1 q1) λvl s2 ⟨l,H2,I2,pl,q2⟩=>thn (hu pins s2 σ H2 _ I2 q2) λvu s3 ⟨u,H3,I3,pu,q3⟩=>?_);rw[evalPart_none];refine As ?_
 have I4:Inv X pins σ H3 { s3 with heap:=s3.heap.push { cls:=.type "slice",data:=.fields #[vl,vu,.none] } }:=I3.kept (t':=s3.toks) λb ob q=>Ag _ q
 obtain⟨T,id,hT,ht,hg⟩:=hr pins { s3 with heap:=s3.heap.push { cls:=.type "slice",data:=.fields #[vl,vu,.none] } } σ H3 x v vl vu l u s3.heap.objs.size Q I4 r1 (Heap.IsSliceOf.new ..) pl pu q3;show Aq (Ap X.prog X.w) X.A (subscriptTail e (.Slice lo hi none p2) v (.ref s3.heap.objs.size)) (EP X pins σ Q) X.xe { s3 with heap:=s3.heap.push { cls:=.type "slice",data:=.fields #[vl,vu,.none] } };exact tail_any (ops:=[.ref s3.heap.objs.size,v]) ht hT hg (by with_unfolding_all rfl)
noncomputable def cutV(xs:List V)(lo hi:Option Int):List V:=(xs.drop (HT.sIx xs.length 0 lo)).take (HT.sIx xs.length xs.length hi-HT.sIx xs.length 0 lo)
theorem zfr(xs:List V)(lo hi:Option Int):(cutV xs lo hi).length<=xs.length:=by unfold cutV;rw[AJ,AC];lia
noncomputable def rCatT(K:W.Frag):R2:=λx y H Q=>∃a b xs ys,x=.ref a/\y=.ref b/\SqT K H a xs/\SqT K H b ys/\xs≠[]/\xs.length+ys.length<=sizeLine /\
 (ys=[]->Q (.ref a) H)/\(ys≠[]->∀p,H p=none->Q (.ref p) (upd H p (.tup (xs++ys))))
theorem Vals.nil_iff{xs:List V}{us:List Value}(r:Vals xs us):us=[] ↔ xs=[]:=by
 cases r with
 |nil=>simp
 |cons _ _=>simp
theorem zi8:OpR X (Cu .Add) (rCatT X.K):=by
 intro pins s σ H x y v u Q I rx ry h;obtain⟨a,b,xs,ys,rfl,rfl,ha,hb,hx,hz,q1,q2⟩:=h
 cases rx
 cases ry
 obtain⟨its,r1,p1,_⟩:=I.tuple ha;obtain⟨its2,r2,p2,_⟩:=I.tuple hb;refine HT.cat_tup p1 p2 (λz=>hx (r1.nil_iff.mp z)) (λz=>⟨.ref a,H,I,rfl,q1 (r2.nil_iff.mp z)⟩) (λz=>?_) (by rw[<- r1.length,<- r2.length];exact hz);refine⟨.ref s.heap.objs.size,_,I.laid (t':=s.toks) (o:=.tup (xs++ys)) (λb ob q=>Ag _ q) (Ai _) ?_,rfl,q2 (λw=>z (r2.nil_iff.mpr w)) _ (I.hok.fresh (Ai _))⟩;exact⟨by rw[At];exact hz,_,r1.append r2,IsTup.new _ _⟩
end
noncomputable def ixN(n:Nat)(i:Int):Option Nat:=if 0<=i then (if i<n then some i.toNat else none) else if -(n:Int)<=i then some (i+n).toNat else none
noncomputable def atI{α:Type}(xs:List α)(i:Int):Option α:=(ixN xs.length i).bind λj=>xs[j]?
theorem zje{n:Nat}{i:Int}{j:Nat}(h:ixN n i=some j):seqIndex? i n=some j/\j<n/\-(n:Int)<=i/\i<n:=by
 unfold ixN at h
 by_cases h0:0<=i
 .rw[if_pos h0]at h
  by_cases h1:i<n
  .rw[if_pos h1]at h;have e:i.toNat=j:=Bu h;exact⟨by rw[seqIndex_of h0 h1,e],by lia,by lia,h1⟩
  .rw[if_neg h1]at h;cases h
 .rw[if_neg h0]at h
  by_cases h1:-(n:Int)<=i
  .rw[if_pos h1]at h;have e:(i+n).toNat=j:=Bu h;exact⟨by rw[seqIndex_neg (by lia) h1,e],by lia,h1,by lia⟩
  .rw[if_neg h1]at h;cases h
theorem zfs{α:Type}{xs:List α}{i:Int}{v:α}(h:atI xs i=some v):∃j,seqIndex? i xs.length=some j/\xs[j]?=some v/\j<xs.length/\-(xs.length:Int)<=i/\i<xs.length:=by
 unfold atI at h
 cases e:ixN xs.length i with
 |none=>rw[e]at h;cases h
 |some j =>
  rw[e]at h;obtain⟨h1,h2,h3,h4⟩:=zje e;exact⟨j,h1,h,h2,h3,h4⟩
theorem zas{α:Type}{xs:List α}{j:Nat}{v:α}(h:xs[j]?=some v):atI xs (j:Int)=some v:=by
 have hj:j<xs.length:=(Aj.mp h).1
 have e:ixN xs.length (j:Int)=some j:=by unfold ixN;rw[if_pos (by lia),if_pos (by lia)];simp
 unfold atI;rw[e];exact h
noncomputable def zjs(b:Expr):Prop:=∀o i,subscripted b false o i=operate [o,i] (getItem o i)
noncomputable def IxR(X:Cx)(r:R2):Prop :=
 ∀(value slice:Expr) (pins:List (Addr×Obj)) (s:Ab) (σ:St) (H:Hp) (x y:V) (v u:Value) (Q:VK),Inv X pins σ H s->RelV x v->RelV y u->r x y H Q ->
  subscripted slice false v u=operate [v,u] (getItem v u)->Aq (Ap X.prog X.w) X.A (subscriptTail value slice v u) (EP X pins σ Q) X.xe s
noncomputable def MtR(X:Cx)(id:String)(r:V->List V->Hp->VK->Prop):Prop :=
 ∀(pins:List (Addr×Obj)) (s:Ab) (σ:St) (H:Hp) (x:V) (xs:List V) (v:Value) (us:List Value) (Q:VK),Inv X pins σ H s->RelV x v->Vals xs us->r x xs H Q ->
  Aq (Ap X.prog X.w) X.A (call (.builtin id) (v::us)) (EP X pins σ Q) X.xe s
section
variable {X:Cx}{a b:Expr}{ta tb:TE}{pos:Pos}
theorem pe_ix{r:R2}(hr:IxR X r)(ha:PE X a ta)(hb:PE X b tb)(hs:zjs b):PE X (.Subscript a b pos) (tOp r ta tb):=by intro pins s σ H Q I h;exact Subscript_ (binT ha hb I h λv u s2 x y H2 I2 rx ry q=>hr a b pins s2 σ H2 x y v u Q I2 rx ry q (hs _ _))
noncomputable def rIxL(K:W.Frag):R2:=λx y H Q=>∃p xs i v,x=.ref p/\y=.int i/\SqL K H p xs/\atI xs i=some v/\Q v H
noncomputable def rIxT(K:W.Frag):R2:=λx y H Q=>∃p xs i v,x=.ref p/\y=.int i/\SqT K H p xs/\atI xs i=some v/\Q v H
noncomputable def rIxS:R2:=λx y H Q=>∃z i c,x=.str z/\y=.int i/\z.length<=sizeLine/\atI z.cps.toList i=some c/\Q (.str ⟨#[c]⟩) H
theorem zao:IxR X (rIxL X.K):=by
 intro value slice pins s σ H x y v u Q I rx ry h hs;obtain⟨p,xs,i,z,rfl,rfl,hq,he,q⟩:=h
 cases rx
 obtain⟨t,rfl⟩:=ry;obtain⟨its,r,pl,hz⟩:=I.list hq;obtain⟨j,h1,h2,h3,h4,h5⟩:=zfs he;obtain⟨w,ew,rw'⟩:=r.get h2;have hl:=r.length;have hn:=zdi;have fin:EP X pins σ Q w s:=⟨z,H,I,rw',q⟩
 by_cases h0:0<=i
 .have hj:i.toNat=j := by rw[seqIndex_of h0 h5]at h1;exact Bu h1
  exact item_listR pl.isList h0 (by lia) (by rw[hj];simpa using ew) fin hs
 .have hj:(i + (its.toArray.size:Int)).toNat=j := by rw[seqIndex_neg (by lia) h4]at h1;rw[Az,<- hl];exact Bu h1
  exact subscriptTail_builtinR (x:=w) pl.isList.typeIs slot_list_getitem.lookup
   (wpAny_getItem_list_neg (Q:=λr s'=>r=w/\EP X pins σ Q r s') pl.isList (by lia) (by rw[Az] <;> lia) (by lia) (by rw[hj];simpa using ew) ⟨rfl,fin⟩) hs
theorem zcb:IxR X (rIxT X.K):=by
 intro value slice pins s σ H x y v u Q I rx ry h hs;obtain⟨p,xs,i,z,rfl,rfl,hq,he,q⟩:=h
 cases rx
 obtain⟨t,rfl⟩:=ry;obtain⟨its,r,pl,hz⟩:=I.tuple hq;obtain⟨j,h1,h2,h3,h4,h5⟩:=zfs he;obtain⟨w,ew,rw'⟩:=r.get h2;have hl:=r.length;have hn:=zdi;have fin:EP X pins σ Q w s:=⟨z,H,I,rw',q⟩
 exact subscriptTail_builtinR (x:=w) pl.typeIs slot_tuple_getitem.lookup
  (getItem_tuple (j:=j) (Q:=λr s'=>r=w/\EP X pins σ Q r s') pl (by lia) (by lia) (by rw[Az,<- hl];exact h1) (by simpa using ew) ⟨rfl,fin⟩) hs
theorem zdR:IxR X rIxS:=by
 intro value slice pins s σ H x y v u Q I rx ry h hs;obtain⟨z,i,c,rfl,rfl,hz,he,q⟩:=h;obtain⟨t,rfl⟩:=rx;obtain⟨t',rfl⟩:=ry;obtain⟨j,h1,h2,h3,h4,h5⟩:=zfs he;have hl:z.cps.toList.length=z.length:=by simp[Str.length]
 rw[hl]at h1 h4 h5;have hn:=zdi
 exact tail_any (Dl s z t) slot_str_getitem.lookup (getItem_str (c:=c) (by
  have e1:decide (i < -(2 ^ 63:Int))=false:=decide_eq_false (by lia);have e2:decide (i ≥ 2 ^ 63)=false:=decide_eq_false (by lia);rw[e1,e2,Bool.or_false]) (by rw[h1];simpa using h2) ⟨.str ⟨#[c]⟩,H,I.tok _,⟨_,rfl⟩,q⟩) hs
theorem zeB(lo hi:Option Int)(n:Nat):(Cz lo hi none n).1=((HT.sIx n 0 lo:Nat):Int)/\(Cz lo hi none n).2.1=((HT.sIx n n hi:Nat):Int)/\(Cz lo hi none n).2.2=1:=by
 refine⟨?_,?_,rfl⟩
 .cases lo with
  |none=>simp[Cz,HT.sIx]
  |some i =>
   simp only[Cz,HT.sIx,Option.getD_none,show (1:Int) > 0 by decide,if_true]
   by_cases h:i<0
   .simp only[h,if_true] <;> lia
   .simp only[h,if_false] <;> lia
 .cases hi with
  |none=>simp[Cz,HT.sIx]
  |some i =>
   simp only[Cz,HT.sIx,Option.getD_none,show (1:Int) > 0 by decide,if_true]
   by_cases h:i<0
   .simp only[h,if_true] <;> lia
   .simp only[h,if_false] <;> lia
theorem zdY(its:List Value)(lo hi:Option Int):slicePick its.toArray lo hi none=((its.drop (HT.sIx its.length 0 lo)).take (HT.sIx its.length its.length hi-HT.sIx its.length 0 lo)).toArray:=by obtain⟨h1,h2,h3⟩:=zeB lo hi its.toArray.size;unfold slicePick;rw[h1,h2,h3];simp only[sliceRange_one,pick_run,Az] <;> rfl
noncomputable def rSlL(K:W.Frag):V->Option Int->Option Int->Hp->VK->Prop:=λx lo hi H Q=>∃a xs,x=.ref a/\SqL K H a xs/\∀p,H p=none->Q (.ref p) (upd H p (.lst (cutV xs lo hi)))
theorem za7:SlR X (rSlL X.K):=by
 intro pins s σ H x v vl vu lo hi sl Q I rx hs pl pu h;obtain⟨a,xs,rfl,hx,q⟩:=h
 cases rx
 obtain⟨its,r,ht,hz⟩:=I.list hx;have hlen:=r.length;refine⟨"list",_,slot_list_getitem.lookup,ht.isList.typeIs,?_⟩;refine wpAny_getItem_list_slice ht.isList hs pl pu .none (by simp) ?_ (by rw[Az] <;> lia)
 rw[zdY,<- hlen];refine⟨.ref s.heap.objs.size,_,I.laid (t':=s.toks) (o:=.lst (cutV xs lo hi)) (λb ob q=>Ag _ q) (Ai _) ?_,rfl,q _ (I.hok.fresh (Ai _))⟩;exact⟨AK (zfr xs lo hi) hz,_,0,(r.drop (HT.sIx xs.length 0 lo)).take (HT.sIx xs.length xs.length hi-HT.sIx xs.length 0 lo),Ar _ rfl⟩
theorem zcQ:OpR X (Bp .NotIn) (λx y H Q=>∃i j,x=.str i/\y=.str j/\Q (.bl (!(!(Br j i 0 j.length 1).isEmpty))) H):=by intro pins s σ H x y v u Q I rx ry h;obtain⟨i,j,rfl,rfl,q⟩:=h;obtain⟨t,rfl⟩:=rx;obtain⟨t',rfl⟩:=ry;exact notIn_str ⟨.bl _,H,I,rfl,q⟩
theorem zaj:CallR X (.builtin "len") (λxs H Q=>∃p ys,xs=[.ref p]/\(SqL X.K H p ys∨SqT X.K H p ys)/\Q (.int ys.length) H):=by
 intro pins s σ H xs us Q I r h;obtain⟨p,ys,rfl,hq,q⟩:=h;obtain⟨u,rfl,rx⟩:=vals1 r
 cases rx
 have hn:=zdi;rcases hq with hq |hq
 .obtain⟨its,r',pl,hz⟩:=I.list hq;have hlen:=r'.length;exact Calls.call_len_list pl.isList (by simp only[Az] <;> lia) ⟨.int ys.length,H,I.tok _,⟨s.toks+1,by rw[Az,hlen]⟩,q⟩
 .obtain⟨its,r',pl,hz⟩:=I.tuple hq;have hlen:=r'.length;exact len_tuple pl (by simp only[Az] <;> lia) ⟨.int ys.length,H,I.tok _,⟨s.toks+1,by rw[Az,hlen]⟩,q⟩
theorem zat:CallR X (.builtin "len") (λxs H Q=>∃z,xs=[.str z]/\z.length<=sizeLine/\Q (.int z.length) H):=by intro pins s σ H xs us Q I r h;obtain⟨z,rfl,hz,q⟩:=h;obtain⟨u,rfl,t,rfl⟩:=vals1 r;have hn:=zdi;exact len_str (by lia) ⟨.int z.length,H,I.tok _,⟨_,rfl⟩,q⟩
theorem zek:CallR X (.type "tuple") (λxs H Q=>∃p ys,xs=[.ref p]/\((SqL X.K H p ys/\∀l,H l=none->Q (.ref l) (upd H l (.tup ys)))∨(SqT X.K H p ys/\Q (.ref p) H))):=by
 intro pins s σ H xs us Q I r h;obtain⟨p,ys,rfl,h⟩:=h;obtain⟨u,rfl,rx⟩:=vals1 r
 cases rx
 rcases h with⟨hq,q⟩ |⟨hq,q⟩
 .obtain⟨its,r',pl,hz⟩:=I.list hq;have hlen:=r'.length;refine call_tuple_list pl.isList (λh' kp=>?_) (by simp only[Az] <;> lia);have I1:Inv X pins σ H { s with heap:=h' }:=I.kept (t':=s.toks) kp
  have I2:Inv X pins σ (upd H h'.objs.size (.tup ys)) { s with heap:=h'.push { cls:=.type "tuple",data:=.seq its.toArray } } :=
   I1.laid (t':=s.toks) (λb o e=>Ag _ e) (Ai _) (show ObjOk X.prog X.w _ _ _ (.tup ys) from ⟨hz,its,r',IsTup.new _ _⟩)
  exact⟨.ref h'.objs.size,_,I2,rfl,q _ (I1.hok.fresh (Ai _))⟩
 .obtain⟨its,r',pl,hz⟩:=I.tuple hq;exact call_tuple_same pl ⟨.ref p,H,I,rfl,q⟩
noncomputable def tyV(K:W.Frag)(T:String)(x:V)(H:Hp):Prop:=match x with
  |.str _=>T = "str"
  |.int _=>T = "int"
  |.ref p => (T = "list" /\ ∃xs, SqL K H p xs) ∨ (T = "tuple" /\ ∃o, K.lookup p=some o /\ o.cls = .type "tuple" /\ o.dict=none) ∨
      (T = "dict" /\ ((∃kvs,H p=some (.dK kvs))∨∃kvs,H p=some (.dT kvs)))∨(T = "set" /\ ∃S n,H p=some (.set S n))
  |_=>False
theorem zjx{pins:List (Addr × Obj)}{σ : St}{H:Hp}{s:Ab}{T:String}{x:V}{v:Value}(I:Inv X pins σ H s)(r:RelV x v)(ty:tyV X.K T x H) :
  s.TypeIs v T/\∀a,v=.ref a->∃ob,s.heap.get? a=some ob/\ob.dict=none:=by
 cases x with
 |str z =>
  obtain⟨t,rfl⟩:=r
  cases (show T = "str" from ty)
  exact⟨Dl s z t,λ_ e=>nomatch e⟩
 |int i =>
  obtain⟨t,rfl⟩:=r
  cases (show T = "int" from ty)
  exact⟨typeIs_int s i t,λ_ e=>nomatch e⟩
 |ref p =>
  cases r
  rcases ty with⟨rfl,xs,hq⟩ |⟨rfl,o,hk,hc,hd⟩ |⟨rfl,hk⟩ |⟨rfl,S,n,hk⟩
  .obtain⟨its,_,pl,_⟩:=I.list hq;refine⟨pl.isList.typeIs,λa e=>?_⟩
   cases e
   obtain⟨o,n,e,c,hd,_⟩:=pl;exact⟨o,e,hd⟩
  .refine⟨⟨o,I.kIn p o hk,hc⟩,λa e=>?_⟩
   cases e
   exact⟨o,I.kIn _ o hk,hd⟩
  .have z:∃o, s.heap.get? p=some o /\ o.ExactDict := by
    rcases hk with⟨kvs,hk⟩ |⟨kvs,hk⟩
    .obtain⟨_,_,_,_,o,_,_,e,ex,_⟩:=I.hok p _ hk;exact⟨o,e,ex⟩
    .obtain⟨_,_,_,_,o,_,_,e,ex,_⟩:=I.hok p _ hk;exact⟨o,e,ex⟩
   obtain⟨o,e,ex⟩:=z;refine⟨⟨o,e,ex.1⟩,λa e2=>?_⟩
   cases e2
   exact⟨o,e,ex.2.1⟩
  .obtain⟨o,_,_,_,e,ex,_⟩:=I.hok p _ hk;refine⟨⟨o,e,ex.1⟩,λa e2=>?_⟩
   cases e2
   exact⟨o,e,ex.2.1⟩
 |_=>exact Bj ty
noncomputable def tBM(K:W.Frag)(T:String)(r:V->List V->Hp->VK->Prop)(to:TE)(t:TA):TE:=λσ H Q=>to σ H λx H1=>tyV K T x H1/\t σ H1 λxs H2=>r x xs H2 Q
variable {o e:Expr}{es:List Expr}{to:TE}{t:TA}{name:Str}{apos cpos:Pos}{T id:String}{r:V->List V->Hp->VK->Prop}
theorem pe_bm (pa:PlainAttrs T) (slot:Slot T name id) (hty:typeOf (.builtin id)=pure (.type "method_descriptor")) (hm:MtR X id r) (ho:PE X o to) (ha:PA X (e :: es) t)
  (hbase:Dd o name X.env (eval o X.env)=eval o X.env:=by rfl)
  (hfew:((CB cpos (AA (e::es) X.env)).all (λx=>!x.1) && (backToKw cpos (keywordEach [] X.env)).all (λx=>x.1.isSome)
   && decide ((e::es).length+([]:List Keyword).length+(if ([]:List Keyword).isEmpty then 0 else 1)<30))=true:=by rfl)
  (hline:(apos.endLine == cpos.line)=true:=by rfl) (hs:AA (e::es) X.env=(false,eval e X.env)::AA es X.env:=by rfl) (hplain:(CB cpos (AA es X.env)).any (·.1)=false:=by rfl) :
  PE X (.Call (.Attribute o name apos) (e::es) [] cpos) (tBM X.K T r to t):=by
 intro pins s σ H Q I h;refine wpAny_Call_method_late hbase hfew hline rfl (thn (ho pins s σ H _ I h) λv s1 ⟨x,H1,I1,r1,ty,q1⟩=>?_);obtain⟨h1,h2⟩:=zjx I1 r1 ty;refine⟨T,id,pa,slot,hty,h1,h2,?_⟩;have hA:=ha cpos pins s1 σ H1 _ I1 q1;rw[hs]at hA ⊢;refine Calls.callWith_builtin (by show (false || (CB cpos (AA es X.env)).any (·.1))=false;rw[hplain] <;> rfl) (Calls.evalArgs_plain ?_);exact thn hA λus s2 ⟨vs,H2,I2,r2,q2⟩=>hm pins s2 σ H2 x vs v us Q I2 r1 r2 q2
/- xs.append(e),list.index on a module's tuple .. are MtR facts of 06m -/
end
noncomputable def MtM(X:Cx)(id:String)(r:V->List V->Hp->VK->Prop):Prop :=
 ∀(pins:List (Addr×Obj)) (s:Ab) (σ:St) (H:Hp) (x:V) (xs:List V) (v:Value) (us:List Value) (Q:VK),Inv X pins σ H s->RelV x v->Vals xs us->r x xs H Q ->
  Aq (Ap X.prog X.w) X.A (call (.builtin id) (v::us)) (EP X pins σ Q) X.xe s
theorem Vals.one:∀{x:V}{us:List Value},Vals [x] us->∃u,us=[u]/\RelV x u
 |_,_,.cons r .nil=>⟨_,rfl,r⟩
theorem Vals.two:∀{x y:V}{us:List Value},Vals [x,y] us->∃u v,us=[u,v]/\RelV x u/\RelV y v
 |_,_,_,.cons r (.cons q .nil)=>⟨_,_,rfl,r,q⟩
theorem Vals.reverse{xs:List V}{us:List Value}(h:Vals xs us):Vals xs.reverse us.reverse:=by
 induction h with
 |nil=>exact .nil
 |cons r t ih=>rw[List.reverse_cons,List.reverse_cons];exact Vals.append ih (.cons r .nil)
theorem Vals.rep{xs:List V}{us:List Value}(h:Vals xs us):∀k:Nat,Vals (Ay k xs).flatten (Ay k us).flatten
 | 0=>.nil
 |k+1=>by
  rw[BB,BB,Cn,Cn];exact Vals.append h (Vals.rep h k)
theorem zeU(its:List Value):∀(k:Nat) (acc:List Value),
  List.foldl (λx1 x2=>x1++x2) acc.toArray (Ay k its.toArray)=(acc++(Ay k its).flatten).toArray
 | 0,acc=>by simp
 |k+1,acc=>by
  have e:acc.toArray++its.toArray=(acc++its).toArray:=by simp
  have e2:(acc++its)++(Ay k its).flatten=acc++(Ay (k+1) its).flatten:=by rw[BB,Cn,List.append_assoc]
  rw[<- e2,<- zeU its k (acc++its),<- e,BB,List.foldl_cons]
section
variable {X:Cx}{pins:List (Addr×Obj)}{σ:St}{H:Hp}{s:Ab}{l b:Addr}{xs ys zs:List V}
theorem Inv.lset{its its':List Value}{n:Nat}{f:Array Value -> Array Value}{t':Nat}(I:Inv X pins σ H s)(hH:H l=some (.lst xs))
  (e:s.heap.get? l=some { cls:=.type "list",data:=.seq its.toArray n }) (hf:f its.toArray=its'.toArray) (hv:Vals ys its') (hz:ys.length<=sizeLine) :
  Inv X pins σ (upd H l (.lst ys)) { s with heap:=s.heap.update l (Obj.mapSeq f),toks:=t' }:=by
 have q:=PySem.IsL.update e f;rw[hf]at q;refine I.write (x:=l) (e:=l) (by rw[hH];exact trivial) (.inl rfl) (λb' u hb hu=>(BL s.heap (Obj.mapSeq f) (BJ hb)).trans hu) ⟨_,q⟩ ?_
 exact⟨hz,its',_,hv,q⟩
theorem Inv.lnew{its:List Value}{t':Nat}(I:Inv X pins σ H s)(hv:Vals ys its)(hz:ys.length <= sizeLine) :
  Inv X pins σ (upd H s.heap.objs.size (.lst ys)) { s with heap:=s.heap.push { cls:=.type "list",data:=.seq its.toArray },toks:=t' } :=
 I.laid (λ_ _ q=>Ag _ q) (Ai _) ⟨hz,its,0,hv,Ar _ rfl⟩
theorem Inv.fresh(I:Inv X pins σ H s):H s.heap.objs.size=none:=I.hok.fresh (Ai _)
theorem Inv.lstM (I:Inv X pins σ H s) (hH:H l=some (.lst xs)):xs.length<=sizeLine/\∃(its:List Value) (n:Nat),Vals xs its/\xs.length=its.length/\s.heap.get? l=some { cls:=.type "list",data:=.seq its.toArray n }:=by obtain⟨z,its,n,r,e⟩:=I.hok l _ hH;exact⟨z,its,n,r,r.length,e⟩
theorem zfO{n:Nat}(h:n<=sizeLine):Cq n=false:=by unfold Cq;exact decide_eq_false (by lia)
end
section
variable {X:Cx}
noncomputable def zbq:V->List V->Hp->VK->Prop:=λx vs H Q=>∃l xs y,x=.ref l/\vs=[y]/\H l=some (.lst xs)/\xs.length<sizeLine/\Q .non (upd H l (.lst (xs++[y])))
theorem za6:MtM X "list.append" zbq:=by
 intro pins s σ H x vs v us Q I rx rv h;obtain⟨l,xs,y,rfl,rfl,hH,hz,q⟩:=h
 cases rx
 obtain⟨u,rfl,ru⟩:=rv.one;obtain⟨z,its,n,r,hl,e⟩:=I.lstM hH;refine call_meets F.slot_list_append ⟨_,e,rfl⟩ F.entry_list_append (F.args_list_append_2 _ _) (PySem.list_append l its.toArray n u (by rw[Az];lia)) ⟨e,?_⟩;refine⟨.non,_,I.lset (its':=its++[u]) hH e (by simp) (r.append (.cons ru .nil)) ?_,rfl,q⟩;rw[At,List.length_singleton];lia
noncomputable def ziV:V->List V->Hp->VK->Prop:=λx vs H Q=>∃l b xs zs,x=.ref l/\vs=[.ref b]/\H l=some (.lst xs)/\H b=some (.lst zs)/\xs.length+zs.length<=sizeLine/\Q .non (upd H l (.lst (xs++zs)))
theorem zdf:MtM X "list.extend" ziV:=by
 intro pins s σ H x vs v us Q I rx rv h;obtain⟨l,b,xs,zs,rfl,rfl,hH,hB,hz,q⟩:=h
 cases rx
 obtain⟨u,rfl,ru⟩:=rv.one
 cases ru
 obtain⟨z,its,n,r,hl,e⟩:=I.lstM hH;obtain⟨z2,its2,n2,r2,hl2,e2⟩:=I.lstM hB;have hsz:its.toArray.size+its2.toArray.size<=sizeLine:=by rw[Az,Az];lia
 have hlong:¬ (!its.toArray.isEmpty && Cq (its.toArray.size+its2.toArray.size))=true:=by rw[zfO hsz,CV];exact AI
 refine call_meets F.slot_list_extend ⟨_,e,rfl⟩ F.entry_list_extend (F.args_list_extend_2 _ _)
  (AutoSeq1.list_extend_list_list_0 l its.toArray n b its2.toArray n2 hlong (by rw[Az];lia) (by lia)) ⟨e,e2,?_⟩
 refine⟨.non,_,I.lset (its':=its++its2) hH e (by simp) (r.append r2) ?_,rfl,q⟩;rw[At];lia
noncomputable def rCat:R2:=λx y H Q=>∃l b xs zs,x=.ref l/\y=.ref b/\H l=some (.lst xs)/\H b=some (.lst zs)/\xs.length+zs.length<=sizeLine/\∀p,H p=none->Q (.ref p) (upd H p (.lst (xs++zs)))
theorem zcR:OpR X (Cu .Add) rCat:=by
 intro pins s σ H x y v u Q I rx ry h;obtain⟨l,b,xs,zs,rfl,rfl,hH,hB,hz,q⟩:=h
 cases rx
 cases ry
 obtain⟨z,its,n,r,hl,e⟩:=I.lstM hH;obtain⟨z2,its2,n2,r2,hl2,e2⟩:=I.lstM hB;refine PySem.P.add_list e e2 ?_ (by rw[Az,Az];lia)
 have ea:its.toArray++its2.toArray=(its++its2).toArray:=by simp
 rw[ea];exact⟨.ref _,_,I.lnew (t':=s.toks) (r.append r2) (by rw[At];lia),rfl,q _ I.fresh⟩
noncomputable def rRep:R2:=λx y H Q=>∃l k xs,x=.ref l/\y=.int k/\H l=some (.lst xs)/\-(2 ^ 63)<=k/\k<2 ^ 63/\xs.length*k.toNat<=sizeLine /\
 ∀p,H p=none->Q (.ref p) (upd H p (.lst (Ay k.toNat xs).flatten))
theorem zjd{α:Type}(xs:List α)(k:Nat):(Ay k xs).flatten.length=k*xs.length:=by
 induction k with
 |zero=>simp
 |succ k ih=>rw[BB,Cn,At,ih,Nat.succ_mul,Nat.add_comm]
theorem ziu:OpR X (Cu .Mult) rRep:=by
 intro pins s σ H x y v u Q I rx ry h;obtain⟨l,k,xs,rfl,rfl,hH,h1,h2,hz,q⟩:=h
 cases rx
 obtain⟨t,rfl⟩:=ry;obtain⟨z,its,n,r,hl,e⟩:=I.lstM hH;have hlen:its.toArray.size*k.toNat<=sizeLine:=by rw[Az,<- hl];exact hz
 have hcap:¬ its.toArray.size*k.toNat > (2 ^ 63-1) / 8:=by
  have:(sizeLine:Nat)<=(2 ^ 63-1) / 8:=by decide
  lia
 have hfit:¬ (!Builtin.List.listFitsIndex k)=true:=by rw[fitsIndex_both h1 h2];exact AI
 have hlong:¬ Cq (its.toArray.size*k.toNat)=true:=by rw[zfO hlen];exact AI
 have hnew:List.foldl (λx1 x2=>x1++x2) #[] (Ay (if its.toArray.isEmpty=true then 0 else k.toNat) its.toArray)=(Ay k.toNat its).flatten.toArray:=by
  have f0:∀m:Nat,List.foldl (λx1 x2=>x1++x2) #[] (Ay m its.toArray)=(Ay m its).flatten.toArray:=λm=>by have:=zeU its m [];rw[List.nil_append]at this;exact this
  rw[f0]
  cases its with
  |nil=>simp
  |cons a r'=>rw[if_neg (by simp)]
 refine wpAny_binaryOp_repeat_ref (T:="list") (U:="int") (by decide) ⟨_,e,rfl⟩ (λs'=>typeIs_int s' k t) noFill_list_mul F.fills_int_mul F.slot_int_rmul repeat_list F.slot_int_index.lookup
  (call_meets F.slot_int_rmul (typeIs_int s k t) F.entry_int_rmul (F.args_int_rmul_2 _ _) (int___rmul___int_list k t l its.toArray n)
   ⟨e,rfl,⟨_,e,rfl⟩,call_meets F.slot_list_mul ⟨_,e,rfl⟩ F.entry_list_mul (F.args_list_mul_2 _ _) (AutoListH.list___mul___list_int_3 l its.toArray n k t hfit hcap hlong) ⟨e,?_⟩⟩)
 rw[hnew];exact⟨.ref _,_,I.lnew (t':=s.toks) (r.rep k.toNat) (by rw[zjd,Nat.mul_comm];exact hz),rfl,q _ I.fresh⟩
end
section
variable {prog:Am}{w:AB}{A:Aw}{E:Value->Ab->Prop}{s:Ab}
end
section
variable {X:Cx}
end
end L2
namespace Att
open PySem PySem.W PySem.Calls PyProof.Rows
theorem zdk{P:Params}{h:Heap}:∀(ns:List Int) (vs:List Value),WellAll P h vs (ns.map WData.int)->C1 vs ns:=by
 intro ns
 induction ns with
 |nil =>
  intro vs w;rw[List.map_nil]at w
  cases w
  exact .nil
 |cons n ns ih =>
  intro vs w;rw[AZ]at w
  cases w with
  |cons a b =>
   cases a
   exact .cons _ _ (ih _ b)
theorem zgK{l:OpenLaw}{n:Nat}(hn:l.most=some n){P:Params}{h:Heap}{args:List WData}{vals:List Value}
  (hpre:l.row.toRowW.claim.pre args=true) (hwl:WellAll P h vals args) :
  ∃a vs ns,vals=[AM a]/\args=[WData.list (ns.map WData.int)]/\h.get? a=some { cls:=.type "list",data:=.seq vs.toArray }/\C1 vs ns/\ns.length<=n:=by
 have hsh:WShape.hasAll [] args [.list .int]=true:=(pre_splitW hpre).1;have hc:l.pre.holds [] { args:=args }=true:=(pre_splitW hpre).2;obtain⟨d,r,rfl,h1,h2⟩:=hasAllW_cons hsh;obtain rfl:=hasAllW_nil h2;obtain⟨xs,rfl,h3⟩:=hasW_list h1;obtain⟨ns,rfl⟩:=items_int h3
 have hlen:ns.length<=n:=by
  unfold OpenLaw.pre at hc
  have h4:(WTm.not (.lt (.lit (.int (n:Int))) (.len (.arg 0)))).holds [] { args:=[.list (ns.map .int)] }=true:=by have h4:=(holds_andW hc).1;rw[hn]at h4;exact h4
  have h5:=condW_of h4 (w_not (w_lt w_lit (w_len_list (w_arg rfl))));rw[Ae]at h5;refine Nat.le_of_not_lt λq=>?_
  have q':(n:Int)<((ns.length:Nat):Int):=by lia
  first
   | (rw[decide_eq_true q']at h5;exact absurd h5 (by decide))
   | (simp at h5;lia)
 cases hwl with
 |cons w1 w2 =>
  cases w2
  cases w1 with
  |list ho hall=>exact⟨_,_,ns,rfl,rfl,ho,zdk ns _ hall,hlen⟩
theorem zgU(l:OpenLaw)(args:List WData):l.row.toRowW.claim.post args (.bool true) args=true :=
 postW_of (r:=l.row.toRowW) (X:=(true == true))
  (show WShape.has [] (.bool true) .bool=true by first |rfl |decide |simp[WShape.has,WShape.arms,WShape.armsAll])
  (show (WTm.eq .res (.lit (.bool true))).value [] { args:=args,res:=some (.bool true),after:=args }=some (.bool (true == true)) from w_eq_bool (w_res rfl) w_lit) rfl
theorem attach_call{l:OpenLaw}{n:Nat}{q:Am}{loose:List Str}{XP:(Str -> Option Value) -> Heap -> Prop}{YP:AB -> Heap -> Prop}{d:DefRec}
  (hn:l.most=some n) (hdf:d.params.defaults=[])
  (call:∀(w:AB) (s₀ s₁:Ab) (mg mb:Str->Option Value) (fa:Addr) (o:Obj) (pm cd doc:Value) (a:Addr) (vs:List Value) (ns:List Int),
   Ground q loose [] XP w s₀ mg mb s₁.heap->YP w s₁.heap ->
   s₁.heap.get? fa=some o->o.data=.func (docDef d.name d.params d.body d.scope pm cd doc)->s₁.heap.CodeRec cd d.name->mg d.name=some (.ref fa) ->
   s₁.heap.get? a=some { cls:=.type "list",data:=.seq vs.toArray }->C1 vs ns->ns.length<=n->s₁.gens=#[] ->
   CC (Ap l.prog w) callerA (.call (.ref fa) ⟨[.ref a],[]⟩) (λr s'=>r=.ok (.ret (.bool true))/\OldK s₁.heap s'.heap/\s'.os=s₁.os/\AllBare s'.gens) s₁) :
  WalkO q loose XP YP l.row.toRowW d [] (λf vs=>PySem.call f vs):=by
 intro w s₀ s₁ mg mb G Y fa o pm cd doc dV kV ho hd hcd hD hmg hg args vals as hpre hlay hrd hwl hlo;obtain rfl:dV=.none:=Dflts.none hD hdf;obtain rfl:kV=.none:=Dflts.noKw hD;obtain⟨a,vs,ns,rfl,rfl,hobj,hints,hlen⟩:=zgK hn hpre hwl;refine enter_call (codeAny_mono (call w s₀ s₁ mg mb fa o pm cd doc a vs ns G Y ho (fd_plain hd) hcd hmg hobj hints hlen hg) λr s' hq=>?_);obtain⟨rfl,h2,h3,h4⟩:=hq;exact⟨.inl ⟨.bool true,.bool true,[],rfl,λ_=>rfl,.bool true,zgU l _,λ_=>⟨List.Pairwise.nil,λ_ hm=>(nomatch hm)⟩⟩,h2,h3,h4⟩
section
variable {prog:Am}{w:AB}{A:Aw}{E:Value->Ab->Prop}{s:Ab}{K:Frag}
noncomputable def zj7(h:Heap)(L d:Addr):List (Addr×Obj):=(A3 h.objs.size).filterMap λa=>if a=L∨a=d then none else (h.get? a).map λo=>(a,o)
end
end Att
namespace L2
open PySem PySem.Spec PyProof.Rows
theorem zer:∀{vs:List Value}{ns:List Int},C1 vs ns->Vals (ns.map V.int) vs
 |_,_,.nil=>.nil
 |_,_,.cons n t h=>.cons ⟨t,rfl⟩ (zer h)
noncomputable def Only(H:Hp):Prop:=∀b,H b=none∨∃o xs,H b=some (.frz o (.lst xs))
theorem zhX{P:Am}{w:AB}{K:W.Frag}{mg mb:Str -> Option Value}{CX:CXT}{k:Nat}{fa a:Addr}{fd:A5}{x:Str}{sp:Sp}{s₁ : Ab}{vs:List Value}{ns:List Int}
    (KX:K.In s₁.heap) (hns:s₁.heap.Ns Au mg) (hb:s₁.heap.Ns builtinsNs mb) (hbb:∀x:Str,x ≠ "__name__" -> mb x=bootBuiltins x) (hlim:s₁.heap.NoLimit) (hg:s₁.gens=#[])
    (ha:s₁.heap.get? a=some { cls:=.type "list",data:=.seq vs.toArray }) (hi:C1 vs ns) (hl:ns.length<=sizeLine) (hr:Room k callerA)
    (F:∀base:Heap,K.In base->base.Ns Au mg->FnOk P w K mg base CX k fa fd [x] sp) (hbind:∀(s:Ab) (u:Value),BindsTo s fd ⟨[u],[]⟩ [(x,u)])
    (hsp:∀H:Hp,Only H->SqL K H a (ns.map V.int)->sp [.ref a] H (λv _=>v=.bl true) λ_ _ _=>False)
    (hCX:∀H e s',CX [] H s₁ (λ_ _ _=>False) e s'->False) :
    CC (Ap P w) callerA (.call (.ref fa) ⟨[.ref a],[]⟩) (λr s'=>r=.ok (.ret (.bool true))/\OldK s₁.heap s'.heap/\s'.os=s₁.os/\AllBare s'.gens) s₁:=by
  have rv:=zer hi;have lenV:=hi.length
  have core:∀H:Hp, Only H -> SqL K H a (ns.map V.int) -> HOk P w H s₁.heap -> (∀b, H b ≠ none -> b=a) -> (H a ≠ none -> K.lookup a=none) ->
      CC (Ap P w) callerA (.call (.ref fa) ⟨[.ref a],[]⟩) (λr s'=>r=.ok (.ret (.bool true))/\OldK s₁.heap s'.heap/\s'.os=s₁.os/\AllBare s'.gens) s₁:=by
    intro H hO hS hok hA hK;have base_of:∀{b:Addr} {o:Obj},s₁.heap.get? b=some o->H b=none->(hidT s₁.heap H).get? b=some o:=λe n=>zh0 e n
    have noA:∀{b:Addr} {o:Obj} {es:Array DictEntry} {ep:Nat},s₁.heap.get? b=some o->o.data=.dict es ep->H b=none:=λ{b o es ep} e d=>by
      cases q:H b with
      |none=>rfl
      |some u =>
        have e':b=a:=hA b (by rw[q];simp);subst e';rw[ha]at e;cases e;have d':Data.seq vs.toArray _=Data.dict es ep:=d
        cases d'
    have nsK:∀{b:Addr} {m:Str->Option Value},s₁.heap.Ns b m->(hidT s₁.heap H).Ns b m:=λ{b m} ⟨o,es,ep,e,d,r⟩=>⟨o,es,ep,base_of e (noA e d),d,r⟩
    have hKb:K.In (hidT s₁.heap H):=λb o e=>base_of (KX b o e) (by
      cases q:H b with
      |none=>rfl
      |some u =>
        have e':b=a:=hA b (by rw[q];simp);subst e';rw[hK (by rw[q];simp)]at e;cases e)
    have hM:Mod K mg (hidT s₁.heap H):=⟨hKb,nsK hns,⟨mb,nsK hb,hbb⟩,let ⟨mc,h1,h2⟩:=hlim;⟨mc,nsK h1,h2⟩⟩;have e0:Env0 P w K mg (hidT s₁.heap H) callerA [] s₁ H:=⟨rfl,hM,λb o e=>zi9 e,Nat.le_of_eq (zhd _ _),trivial,λb hb=>absurd (show b∈([]:List Addr) from hb) (by simp),hok,.of_eq hg⟩;refine codeAny_mono ((F _ hKb (nsK hns)).run callerA [] s₁ H ⟨[.ref a],[]⟩ [.ref a] [.ref a] _ _ hr e0 (hbind s₁ (.ref a)) (.cons rfl .nil) (hsp H hO hS)) λr s' h=>?_
    cases r with
    |error e=>exact (hCX H e s' h).elim
    |ok fl =>
      cases fl with
      |next=>exact Bj h
      |brk=>exact Bj h
      |cont=>exact Bj h
      |ret u =>
        obtain⟨v,H',os,bare,un,hok',r',q⟩:=h;have q':v=.bl true:=q;subst q';obtain rfl:u=Value.bool true:=r';refine⟨rfl,OldK.of_keep λb o e=>?_,os,bare⟩
        cases q:H b with
        |none=>exact un.keep b o e q (by intro z;exact absurd (show b∈([]:List Addr) from z) (by simp)) (by simp)
        |some u =>
          rcases hO b with z |⟨ob,xs,z⟩
          . rw[q]at z;cases z
          . have z2:=un.frzs b ob _ z;obtain⟨e1,_⟩:=hok b _ z;obtain⟨e2,_⟩:=hok' b _ z2;rw[e]at e1;cases e1;exact e2
  cases hk:K.lookup a with
  |some o =>
    have e:=KX a o hk;rw[ha]at e
    cases e
    refine core (λ_=>none) (λ_=>.inl rfl) (.inr ⟨_,vs.toArray,_,hk,rfl,rfl,rfl,by rw[Az,lenV];exact hl,by simpa using rv⟩) (λb u z=>by have z':(none:Option HO)=some u:=z;cases z') (λb z=>absurd rfl z) λz=>absurd rfl z
  |none =>
    refine core (λb=>if b=a then some (.frz { cls:=.type "list",data:=.seq vs.toArray } (.lst (ns.map V.int))) else none) (λb=>?_) (.inl (.inr ⟨{ cls:=.type "list",data:=.seq vs.toArray },if_pos rfl⟩)) (λb u z=>?_) (λb z=>?_) λ_=>hk
    . by_cases hb:b=a
      . exact .inr ⟨_,_,if_pos hb⟩
      . exact .inl (if_neg hb)
    . by_cases hb:b=a
      . have z':=(if_pos hb).symm.trans z
        cases z'
        subst hb;exact⟨ha,by rw[Ae];exact hl,vs,_,rv,ha⟩
      . have z':=(if_neg hb).symm.trans z
        cases z'
    . by_cases hb:b=a
      . exact hb
      . exact absurd (if_neg hb) z
noncomputable abbrev KOf{K:W.Frag}{h:Heap}(_:K.In h):W.Frag:=K
theorem walk_of{l:W.OpenLaw}{n k:Nat}{q:Am}{loose:List Str}{XP:(Str -> Option Value) -> Heap -> Prop}{YP:AB -> Heap -> Prop}{d:DefRec}{K:Params -> W.Frag}{CX:AB -> CXT}{sp:AB -> Sp}{x:Str}
  (hn:l.most=some n) (hn2:n<=sizeLine) (hdf:d.params.defaults=[]) (hr:Room k callerA)
  (hY:∀(w:AB) (h:Heap),YP w h->(K w.params).In h)
  (F:∀(w:AB) (mg:Str->Option Value) (fa:Addr) (h:Heap),(K w.params).In h->h.Ns Au mg->mg d.name=some (.ref fa) ->
   ∃fd:A5,(∀(s:Ab) (u:Value),BindsTo s fd ⟨[u],[]⟩ [(x,u)]) /\
    ∀base:Heap,(K w.params).In base->base.Ns Au mg->FnOk l.prog w (K w.params) mg base (CX w) k fa fd [x] (sp w))
  (hsp:∀(w:AB) (H:Hp) (a:Addr) (ns:List Int),ns.length<=n->Only H->SqL (K w.params) H a (ns.map V.int)->sp w [.ref a] H (λv _=>v=.bl true) λ_ _ _=>False)
  (hCX:∀(w:AB) (H:Hp) (s:Ab) (e:Value) (s':Ab),CX w [] H s (λ_ _ _=>False) e s'->False) :
  W.WalkO q loose XP YP l.row.toRowW d [] (λf vs=>PySem.call f vs):=by
 refine Att.attach_call hn hdf λw s₀ s₁ mg mb fa o pm cd doc a vs ns G Y ho hd hcd hmg hobj hints hlen hg=>?_
 have KX:=hY w _ Y;obtain⟨fd,hb,hF⟩:=F w mg fa _ KX G.T.g hmg;exact zhX KX G.T.g G.T.b G.T.builtins G.T.nolimit hg hobj hints (AK hlen hn2) hr hF hb (λH hO hS=>hsp w H a ns hlen hO hS) λH e s'=>hCX w H s₁ e s'
end L2
/- THE LAST THEOREM (shape; LID, My.* are yours):
  My.Adr: a structure of the addresses that your layer names (classes,functions);My.Txt K t: a structure (Prop) of the equations over K;
  My.txt_mk:{K} {implicit addresses ..} (e1:nsIn K Au "law" = some (some (.ref f))) (e2:K.lookup f=some ⟨oc,od,.func (fnOf "law" "law" params body scope dV kV doc pm an cdv ct),sl⟩) (e3:codeIn K cdv "law" = true) ..:∃t,My.Txt K t
set_option maxRecDepth 100000 in
set_option maxHeartbeats 0 in
theorem PySem.Challenge.cw_LID_holds : PySem.Challenge.rw_LID.Holds := by
 w_on;o_law;k_head;(case hw=>w_witness2)
 k_fill
 refine L2.walk_of (l:=PySem.Challenge.rw_LID) (n:=63) (k:=40) (x:="script") (CX:=λw=>..) (sp:=λ_=>My.sp_law) rfl (by decide) rfl ⟨rfl,by decide,by decide⟩ (λw h Y=>W.kIn_of Y) ?F ?S ?C
 case F =>
  intro w mg fa h KX G hmg
  have T:∃ t,My.Txt (L2.KOf KX) t:=by
   dsimp only[L2.KOf]                          -- K must stand as «<heap const> w.params» for k_is
   refine' My.txt_mk ?e1 ?e2 ?e3 ..
   (case e1=>W.k_is)                    -- in the order: a name -> its address -> its object -> its parts
   (case e2=>W.k_is)
   ..
  obtain⟨t,T⟩:=T
  have e0:=hmg.symm.trans (B7 KX G T.law)
  cases e0                                       -- fa is the law's own address
  exact⟨_,λs u=>.of_eq rfl,λbase kb nb=>My.law_fn T kb nb⟩     -- if «.of_eq rfl» comes too early: refine' ⟨_,?b,λbase kb nb=>My.law_fn T kb nb⟩;exact λs u=>.of_eq rfl
 case S=>exact λw H a ns hl hO hS=>..
 case C=>exact ..
(the tactic k_is has no namespace: write k_is) -/
namespace L2
open PySem PySem.Spec PyProof.Rows
noncomputable def zaY(s:Stmt):Arguments:=match s with
 |.FunctionDef _ a _ _ _ _ _ _ _ _=>a
 |_=>{ posonlyargs:=[],args:=[],vararg:=none,kwonlyargs:=[],kw_defaults:=[],kwarg:=none,defaults:=[] }
noncomputable def zaQ(s:Stmt):List Stmt:=match s with
 |.FunctionDef _ _ b _ _ _ _ _ _ _=>b
 |_=>[]
noncomputable def zae(s:Stmt):Scope:=match s with
 |.FunctionDef _ _ _ _ _ _ sc _ _ _=>sc
 |_=>{ kind:=.function,names:=[],isGenerator:=false,isCoroutine:=false }
noncomputable abbrev CX0:CXT:=λ_ _ _ _ _ _=>False
noncomputable abbrev E0:XK:=λ_ _ _=>False
theorem pass0{X:Cx}:zcU CX0 X E0:=λ_ _ _ _ _ _ _ h=>h.elim
structure Fun (K:W.Frag) (x qual:Str) (st:Stmt) (f:Addr) (fd:A5):Prop where
 ex:∃(oc:Value) (od:Option Addr) (kV doc pm:Value) (an:Option Addr) (cdv ct:Value) (osl:Array (Option Value)),
  fd=C8 x qual (zaY st) (zaQ st) (zae st) .none kV doc pm an cdv ct/\K.lookup f=some ⟨oc,od,.func fd,osl⟩/\W.codeIn K cdv qual=true
 kp:Cv K (.ref f)=true
section
variable {P:Am}{w:AB}{K:W.Frag}{mg:Str->Option Value}{base:Heap}
theorem Fun.ok{x qual:Str}{st:Stmt}{f:Addr}{fd:A5}{N ps:List Str}{k:Nat}{sp:Sp}(F:Fun K x qual st f fd)(S:FnScope N ps (zae st))(len:∀vs H Q E, sp vs H Q E -> vs.length=ps.length)
  (hbody:∀(cdv:Value) (A:Aw) (outer:List Env) (s:Ab) (H:Hp) (vs:List V) (Q:VK) (E:XK),Room k (A.deeper (envOfC qual (zae st) s.heap.objs.size f cdv))->sp vs H Q E ->
   ∃t,PSs (cxOf CX0 P w K mg base N qual (zae st) f cdv A outer s H E).nox (zaQ st) t/\t { nx:=λ_ H'=>Q .non H',rt:=Q } (start N vs) H):FnOk P w K mg base CX0 (k+1) f fd ps sp:=by
 obtain⟨oc,od,kV,doc,pm,an,cdv,ct,osl,rfl,lk,hcd⟩:=F.ex;refine fn_of lk hcd S len λA outer s H vs Q E hr hsp=>?_
 obtain⟨t,h,q⟩:=hbody cdv A outer s H vs Q E hr hsp;exact⟨t,h.nox,q⟩
theorem Fun.binds{x qual:Str}{st:Stmt}{f:Addr}{fd:A5}{ps:List Str}(F:Fun K x qual st f fd)
  (h:∀(kV doc pm:Value) (an:Option Addr) (cdv ct:Value) (us:List Value),us.length=ps.length->bindArgs (C8 x qual (zaY st) (zaQ st) (zae st) .none kV doc pm an cdv ct) ⟨us,[]⟩=pure (ps.zip us)):Binds K fd ps []:=by
 obtain⟨oc,od,kV,doc,pm,an,cdv,ct,osl,rfl,lk,hcd⟩:=F.ex;exact .all (h kV doc pm an cdv ct)
theorem zcS{x qual:Str}{st:Stmt}{f:Addr}{oc:Value}{od an:Option Addr}{osl:Array (Option Value)}{kV doc pm cdv ct:Value}(l:K.lookup f=some ⟨oc, od, .func (C8 x qual (zaY st) (zaQ st) (zae st) .none kV doc pm an cdv ct), osl⟩)
  (c:W.codeIn K cdv qual=true) (k:Cv K (.ref f)=true):Fun K x qual st f (C8 x qual (zaY st) (zaQ st) (zae st) .none kV doc pm an cdv ct):=⟨⟨oc,od,kV,doc,pm,an,cdv,ct,osl,rfl,l,c⟩,k⟩
end
theorem hu_of{A:Aw}{k:Nat}(hr:Room k A):A.units+1<cLine:=A6 (Nat.add_le_add_left (by decide:1<=64) _) hr.units
theorem zaF{n:Nat}(h:n<=1000):n<sizeLine:=A6 h (by decide)
section
variable {X:Cx}
theorem pv (i:Nat){x:Str}{pos:Pos}(hN:X.N[i]? = some x := by rfl) (hv:Vis X.env.scope x := by first |exact Or.inl rfl |exact CD (Or.inl rfl) |exact CD (CD rfl)) (hd:(x == ("__debug__" : Str))=false := by decide)
  (hcd:(x == ("__classdict__" : Str))=false:=by decide):PE X (.Name x pos) (tVar i):=zjO hN hv hd hcd
end
theorem iteF{A B:Prop}(h:B):if false=true then A else B:=by rw[if_neg AI];exact h
theorem iteT{A B:Prop}(h:A):if true=true then A else B:=by rw[if_pos rfl];exact h
theorem ite2{c A B:Prop} [Decidable c](h1:c->A)(h2:¬ c->B):if c then A else B:=by
 by_cases h:c
 .rw[if_pos h];exact h1 h
 .rw[if_neg h];exact h2 h
noncomputable def Same(H H':Hp):Prop:=∀b o,H b=some o->H' b=some o
theorem Same.refl(H:Hp):Same H H:=λ_ _ h=>h
theorem Same.trans{H H1 H2:Hp}(a:Same H H1)(b:Same H1 H2):Same H H2:=λc o h=>b c o (a c o h)
theorem Same.free{H H':Hp}(e:Same H H'){l:Addr}(h:H' l=Option.none):H l=Option.none:=by
 cases q:H l with
 |none=>rfl
 |some o =>
  rw[e l o q]at h
  cases h
theorem Same.seq{K:W.Frag}{H H':Hp}{a:Addr}{xs:List V}(e:Same H H')(h:SqL K H a xs):SqL K H' a xs:=by
 rcases h with (h |⟨o,h⟩) |h
 .exact .inl (.inl (e _ _ h))
 .exact .inl (.inr ⟨o,e _ _ h⟩)
 .exact .inr h
section
variable {κ:Type} [DecidableEq κ]
end
end L2
set_option maxHeartbeats 4000000
namespace L2
open PySem PySem.Spec PyProof.Rows
noncomputable def zcm(J:It)(g:TG)(tb:TS):TS:=λD σ H=>∃W:Nat->Nat->St->Hp->Prop,(∃m,W 0 m σ H)/\∀i m σ H,W i m σ H ->
 (J.stop i H/\D.nx σ H)∨(J.go i H/\∃N:St->Hp->Prop,(∀ σ' H',N σ' H'->∃m',m'<m/\W (i+1) m' σ' H')/\∀x H',J.yld i H x H'->g x σ H' λσ2 H2=>tb { D with nx:=N,ct:=N,bk:=D.nx } σ2 H2)
noncomputable def PTs(X:Cx)(ifs:List Expr)(t:TT):Prop :=
 ∀(pins:List (Addr×Obj)) (s:Ab) (σ:St) (H:Hp) (Q:Bool->Hp->Prop),Inv X pins σ H s->t σ H Q ->
  Aq (Ap X.prog X.w) X.A (forIn ifs true λc r=>if r=true then do let ok <- isTrue c X.env (eval c X.env);pure (ForInStep.yield ok) else pure (ForInStep.yield r)) (TP X pins σ Q) X.xe s
theorem za3{X:Cx}:PTs X [] (λ_ H Q=>Q true H):=λpins s σ H Q I h=>As ⟨H,I,h⟩
theorem zfh{X:Cx}{c:Expr}{t:TT}(hc:PT X c t):PTs X [c] t:=λpins s σ H Q I h=>wpAny_tests_one (hc pins s σ H Q I h)
noncomputable def PB(X:Cx)(inner:Sem Unit)(t:TS):Prop :=
 ∀(pins:List (Addr×Obj)) (s:Ab) (σ:St) (H:Hp) (D:Ends),Inv X pins σ H s->t D σ H->Aq (Ap X.prog X.w) X.A inner (λ_ s'=>∃ σ' H',Inv X pins σ' H' s'/\D.nx σ' H') X.xe s
noncomputable def tIfs(tt:TT)(tb:TS):TS:=λD σ H=>tt σ H λb H1=>if b=true then tb D σ H1 else D.nx σ H1
theorem zeZ{X:Cx}{e tg:Expr}{d:Nat}{ifs:List Expr}{p:Pos}{acc:Value}{inner:Sem Unit}{g:TG}{tt:TT}{tb:TS}{it:Addr}{fp:List Addr}{tn:Nat -> Heap -> Prop}{J:It}
  {pins:List (Addr×Obj)} {s:Ab} {σ:St} {H:Hp} {D:Ends} {R:Result->Ab->Prop}
  (hq:(Code.compLoop e d (.ref it) acc X.env).quiet=true)
  (hden:(Ap X.prog X.w).den (.compLoop e d (.ref it) acc X.env)=(compTurn e d (.ref it) acc X.env).onRaise (λx=>do noteFrame x X.env;theTreesLotGoes x))
  (hT:compTurn e d (.ref it) acc X.env=(do
   standAt p
   match <- pyNext (.ref it) with
   |none=>pure (.done .next)
   |some v =>
    CI tg (.ref it) v
    assign tg X.env v
    let mut ok:=true
    for c in ifs do
     if ok then ok <- isTrue c X.env (eval c X.env)
    if ok then
     inner
    again (.compLoop e d (.ref it) acc X.env)))
  (hA:∀(B:Aw) {α:Type} {t:Sem α} {Q:α->Ab->Prop} {E:Value->Ab->Prop} {s:Ab},B=X.A.under (.compLoop e d (.ref it) acc X.env)->Aq (Ap X.prog X.w) X.A t Q E s->Aq (Ap X.prog X.w) B t Q E s)
  (hc:X.calm=true) (hx:X.xe=λ_ _=>False) (hg:PG X tg g) (ht:PTs X ifs tt) (hb:PB X inner tb)
  (I:Inv X pins σ H s) (T:Turn X.prog X.w X.K tg J fp it tn) (st:tn 0 s.heap) (f:∀b∈fp,FpOk X pins H b) (W:zcm J g (tIfs tt tb) D σ H)
  (hR:∀fl s',(∃ σ' H',Inv X pins σ' H' s'/\(∀b∈fp,H' b=none)/\D.nx σ' H')->R (.ok fl) s') :
  CC (Ap X.prog X.w) X.A (.compLoop e d (.ref it) acc X.env) R s:=by
 obtain⟨W,⟨m0,w0⟩,turn⟩:=W;have stat:∀{H':Hp},(∀b∈fp,H' b=none)->∀b∈fp,FpOk X pins H' b:=λhn b hb=>⟨hn b hb,(f b hb).2⟩
 refine codeAny_loop hq (λn s'=>∃i σ' H',Inv X pins σ' H' s'/\tn i s'.heap/\(∀b∈fp,H' b=none)/\W i n σ' H') ?_ m0 ⟨0,σ,H,I,st,λb hb=>(f b hb).1,w0⟩;rintro n s3 ⟨i,σ3,H3,I3,st3,fr3,w3⟩;refine hA _ rfl ?_
 rw[hden];refine wpAny_noted (wpAny_noRaise ?_);rw[hT];refine Ac (De ?_)
 have nx:∀{α:Type} {t:Sem α} {Q:α->Ab->Prop} {s:Ab},Aq (Ap X.prog X.w) X.A t Q X.xe s->Aq (Ap X.prog X.w) X.A t Q (λ_ _=>False) s:=λ{α t Q s} h=>by rw[hx]at h;exact h
 rcases turn i n σ3 H3 w3 with⟨stop,qn⟩ |⟨go,N,hN,step⟩
 .refine Ac (thn (T.done X rfl rfl rfl hc i pins s3 σ3 H3 _ I3 (stat fr3) st3 stop) λr s4 ⟨hr,I4⟩=>?_);subst hr;exact As (hR _ _ ⟨σ3,H3,I4,fr3,qn⟩)
 .refine Ac (thn (T.item X rfl rfl rfl hc i pins s3 σ3 H3 _ I3 (stat fr3) st3 go) λr s4 ⟨u,hr,h4⟩=>?_);subst hr;refine Ac (thn h4 λ_ s5 ⟨x,H5,I5,r5,y5,st5,fr5⟩=>?_);have I5':=I5.pinned (stat fr5) (T.obj _ _ st5)
  have again:∀{σ7:St} {H7:Hp} {s7:Ab},Inv X (pins++zeJ fp s5.heap) σ7 H7 s7->N σ7 H7->∃m,m<n/\∃i σ' H',Inv X pins σ' H' s7/\tn i s7.heap/\(∀b∈fp,H' b=none)/\W i m σ' H':=λ{σ7 H7 s7} I7 n7=>by obtain⟨m',hm,w7⟩:=hN σ7 H7 n7;refine⟨m',hm,i+1,σ7,H7,I7.unpinned,T.keep _ _ _ st5 λb hb o e=>(I7.pin (b,o) (AY _ (AY _ (zb3 hb e)))).1,λb hb=>?_,w7⟩;obtain⟨o,e,d⟩:=T.obj _ _ st5 b hb;exact (I7.pin (b,o) (AY _ (AY _ (zb3 hb e)))).2.1
  refine Ac (thn (nx (hg _ s5 σ3 H5 x u _ I5' r5 (step x H5 y5))) λ_ s6 ⟨σ6,H6,I6,q6⟩=>?_);refine Ac (thn (nx (ht _ s6 σ6 H6 _ I6 q6)) λok s7 ⟨H7,I7,q7⟩=>?_)
  cases ok with
  |false =>
   exact As ⟨rfl,again I7 q7⟩
  |true =>
   refine Ac (thn (nx (hb _ s7 σ6 H7 _ I7 q7)) λ_ s8 ⟨σ8,H8,I8,q8⟩=>?_);exact As ⟨rfl,again I8 q8⟩
noncomputable abbrev blk(X:Cx)(sc:Scope)(cl:List (Str×Addr))(C:Addr)(N':List Str)(s0:Ab)(H0:Hp)(ex:List Addr):Cx :=
 { X with N:=N',s₀:=s0,H₀:=H0,env:=compEnvC sc cl C X.env,outer:=X.stack,stack:=X.stack,ex:=ex,fn:=λ_=>false,pn:=[],xe:=λ_ _=>False }
structure BlkOk (osc:Scope) (N:List Str) (sc:Scope) (N':List Str) (sel:List (Option Nat)):Prop where
 kind:sc.kind=.function
 nocell:∀y∈sc.names,y.2≠.cell
 names:∀y∈sc.names,y.2=.local->sc.names.lookup y.1=some .local
 free:∀y∈sc.names,y.2=.free->osc.names.lookup y.1=some .cell∨osc.names.lookup y.1=some .free
 len:sel.length=N'.length
 sel:∀p∈sel.zip N',∀i∈p.1,N[i]?=some p.2/\sc.names.lookup p.2=some .free
noncomputable def selSt(sel:List (Option Nat))(σ:St):St:=sel.map λo=>o.bind λi=>(σ[i]?).join
theorem zck{env:Env} : ∀(names:List (Str × NameKind)) (acc:List (Str × Addr)), (∀y ∈ names, y.2 = .free -> ∃c, env.cells.lookup y.1=some c) ->
  ∃cl,(forIn names acc λ(x:Str×NameKind) (r:List (Str×Addr))=>(if (x.2 == .free)=true then do let c <- cellOf env x.1;pure (ForInStep.yield ((x.1,c)::r)) else pure (ForInStep.yield r):Sem (ForInStep (List (Str×Addr)))))=pure cl /\
   (∀x c,cl.lookup x=some c->acc.lookup x=some c∨(env.cells.lookup x=some c/\(x,A7)∈names))/\(∀y∈names,y.2=.free->∃c,cl.lookup y.1=some c)/\(∀x c,acc.lookup x=some c->∃c',cl.lookup x=some c')
 |[],acc,_=>⟨acc,rfl,λ_ _ h=>.inl h,(λ_ h=>nomatch h),λx c h=>⟨c,h⟩⟩
 | (n,k)::r,acc,h=>by
  by_cases hk:k=.free
  .subst hk;obtain⟨c,hc⟩:=h (n,.free) A4 rfl;obtain⟨cl,e,h1,h2,h3⟩:=zck r ((n,c)::acc) λy hy=>h y (AH _ hy)
   refine⟨cl,?_,λx c' hx=>?_,λy hy hf=>?_,λx c' hx=>?_⟩
   .rw[List.forIn_cons];have e1:cellOf env n=pure c:=by unfold cellOf;rw[hc]
    simp only[beq_self_eq_true,if_true,e1,pure_bind];exact e
   .rcases h1 x c' hx with q |⟨q,m⟩
    .by_cases hn:x=n
     .subst hn;rw[AW,beq_self_eq_true]at q
      cases q
      exact .inr ⟨hc,A4⟩
     .have hb:(x == n)=false:=by simpa using hn
      rw[AW,hb]at q;exact .inl q
    .exact .inr ⟨q,AH _ m⟩
   .rcases Ax.mp hy with z |z
    .subst z;exact h3 n c (by rw[AW,beq_self_eq_true])
    .exact h2 y z hf
   .by_cases hn:x=n
    .subst hn;exact h3 x c (by rw[AW,beq_self_eq_true])
    .have hb:(x == n)=false:=by simpa using hn
     exact h3 x c' (by rw[AW,hb];exact hx)
  .obtain⟨cl,e,h1,h2,h3⟩:=zck r acc λy hy=>h y (AH _ hy)
   refine⟨cl,?_,λx c' hx=>?_,λy hy hf=>?_,h3⟩
   .rw[List.forIn_cons];have hb:(k == A7)=false:=by simpa using hk
    simp only[hb,Bool.false_eq_true,if_false,pure_bind];exact e
   .rcases h1 x c' hx with q |⟨q,m⟩
    .exact .inl q
    .exact .inr ⟨q,AH _ m⟩
   .rcases Ax.mp hy with z |z
    .subst z;exact absurd hf hk
    .exact h2 y z hf
structure Clo (env:Env) (sc:Scope) (cl:List (Str×Addr)):Prop where
 run:closureFor sc env=pure cl
 old:∀x c,cl.lookup x=some c->env.cells.lookup x=some c/\(x,A7)∈sc.names
 has:∀y∈sc.names,y.2=.free->∃c,cl.lookup y.1=some c
theorem zhq{X:Cx}{osc:Scope}{N:List Str}{sc:Scope}{N':List Str}{sel:List (Option Nat)}(ok:X.Ok)(B:BlkOk osc N sc N' sel)(ho:X.env.scope=osc):∃cl,Clo X.env sc cl:=by
 have hc:∀y∈sc.names,y.2=.free->∃c,X.env.cells.lookup y.1=some c:=λy hy hf=>ok.has y.1 (by
  show X.env.scope.names.lookup y.1=_∨X.env.scope.names.lookup y.1=_;rw[ho];exact B.free y hy hf)
 obtain⟨cl,e,h1,h2,_⟩:=zck (env:=X.env) sc.names [] hc;refine⟨cl,?_,λx c h=>?_,h2⟩
 .unfold closureFor;have e':=e;show (do let r <- forIn sc.names [] _;pure r)=_;simp only[bind_pure];exact e'
 .rcases h1 x c h with q |q
  .cases q
  .exact q
theorem zbE{env:Env} : ∀{names:List (Str × NameKind)}{x:Str}{k:NameKind}, (names.map λ(n, k) => if (k == A7 && env.scope.kind == .function && env.kindOf n == some .cell) then (n, CL) else (n, k)).lookup x=some k ->
  ∃k',(x,k')∈names/\(k=k'∨(k=.cell/\k'=.free))
 |[],x,k,h=>nomatch h
 | (n,j)::r,x,k,h=>by
  have ih:=@zbE env r x k;have h:Cc x ((if (j == A7 && env.scope.kind == .function && env.kindOf n == some .cell)=true then (n,CL) else (n,j))::_)=some k:=h
  by_cases hx:x=n
  .subst hx
   by_cases hc:(j == A7 && env.scope.kind == .function && env.kindOf x == some .cell)=true
   .rw[if_pos hc,AW,beq_self_eq_true]at h
    cases h
    refine⟨j,A4,.inr ⟨rfl,?_⟩⟩;simp only[AX,beq_iff_eq]at hc;exact hc.1.1
   .rw[if_neg hc,AW,beq_self_eq_true]at h
    cases h
    exact⟨j,A4,.inl rfl⟩
  .have hb:(x == n)=false:=by simpa using hx
   have h':Cc x (r.map λ(n,k)=>if (k == A7 && env.scope.kind == .function && env.kindOf n == some .cell) then (n,CL) else (n,k))=some k:=by
    by_cases hc:(j == A7 && env.scope.kind == .function && env.kindOf n == some .cell)=true
    .rw[if_pos hc,AW,hb]at h;exact h
    .rw[if_neg hc,AW,hb]at h;exact h
   obtain⟨k',m,e⟩:=ih h';exact⟨k',AH _ m,e⟩
theorem zbr{env:Env} : ∀{names:List (Str × NameKind)}{x:Str}, names.lookup x=some .free ->
  (names.map λ(n,k)=>if (k == A7 && env.scope.kind == .function && env.kindOf n == some .cell) then (n,CL) else (n,k)).lookup x=some .cell ∨
  (names.map λ(n,k)=>if (k == A7 && env.scope.kind == .function && env.kindOf n == some .cell) then (n,CL) else (n,k)).lookup x=some .free
 |[],x,h=>nomatch h
 | (n,j)::r,x,h=>by
  have ih:=@zbr env r x;rw[AW]at h;show Cc x ((if (j == A7 && env.scope.kind == .function && env.kindOf n == some .cell)=true then (n,CL) else (n,j))::_)=_∨Cc x ((if (j == A7 && env.scope.kind == .function && env.kindOf n == some .cell)=true then (n,CL) else (n,j))::_)=_
  cases hx:x == n with
  |true =>
   rw[hx]at h
   cases h
   by_cases hc:(A7 == A7 && env.scope.kind == .function && env.kindOf n == some .cell)=true
   .rw[if_pos hc,AW,hx];exact .inl rfl
   .rw[if_neg hc,AW,hx];exact .inr rfl
  |false =>
   rw[hx]at h
   by_cases hc:(j == A7 && env.scope.kind == .function && env.kindOf n == some .cell)=true
   .rw[if_pos hc,AW,hx];exact ih h
   .rw[if_neg hc,AW,hx];exact ih h
section
variable {X:Cx}{osc:Scope}{N:List Str}{sc:Scope}{N':List Str}{sel:List (Option Nat)}{cl:List (Str×Addr)}{pins:List (Addr×Obj)}{σ:St}{H:Hp}{s:Ab}{fp:List Addr}
theorem zjf{h':Heap}{ob:Obj}{tk:Nat}(B:BlkOk osc N sc N' sel)(ho:X.env.scope=osc)(hN:X.N=N)(Cl:Clo X.env sc cl)(I:Inv X pins σ H s)
    (f:∀b∈fp,FpOk X pins H b) (fo:∀b∈fp,∃o,s.heap.get? b=some o) (hns:h'.Ns s.heap.objs.size (λ_=>none)) (hsb:BK s.heap.objs.size (s.heap.push ob) h') :
    Inv (blk X sc cl s.heap.objs.size N' s H fp) [] (selSt sel σ) H { s with heap:=h',toks:=tk }:=by
  have old:∀b o,s.heap.get? b=some o->h'.get? b=some o:=λb o e=>(hsb.2 b (AS (Ao e))).trans (Ag _ e)
  have bel:∀b∈fp,b<s.heap.objs.size:=λb hb=>by obtain⟨o,e⟩:=fo b hb;exact Ao e
  have kk:∀x,(compEnvC sc cl s.heap.objs.size X.env).kindOf x=some .cell∨(compEnvC sc cl s.heap.objs.size X.env).kindOf x=some .free->(x,A7)∈sc.names:=λx hx=>by
    rcases hx with hx |hx
    . obtain⟨k',m,e⟩:=zbE hx;rcases e with e |⟨_,e⟩
      . subst e;exact absurd rfl (B.nocell _ m)
      . subst e;exact m
    . obtain⟨k',m,e⟩:=zbE hx;rcases e with e |⟨e,_⟩
      . subst e;exact m
      . cases e
  refine⟨⟨I.mod, B.kind, I.ok.glob, I.ok.blt, Ai _, λx y c e1 e2 => I.ok.inj x y c (Cl.old x c e1).1 (Cl.old y c e2).1, λx hx => Cl.has _ (kk x hx) rfl, λx c z => absurd z (by intro q; cases q), I.ok.hd, I.ok.frames, .inl rfl,
      λb hb=>⟨AS (bel b hb),λx c e=>(f b hb).2.2.2.2.1 x c (Cl.old x c e).1⟩,I.bs,AK I.ok.bsz I.sz,λb o e hb=>?_,λb hb hs=>?_,I.stack,I.stkFree⟩,
    rfl,I.bare,Un.kept old,⟨_,hns,λj x v e1 e2 e3=>?_⟩,λx c e=>?_,I.hok.fresh (Ai _),λx c e=>I.freeC x c (Cl.old x c e).1,λp hp=>absurd (show p∈([]:List (Addr×Obj)) from hp) (by simp),I.hok.kept old,?_⟩
  . rcases (f b hb).2.2.2.1 with z |z
    . exact I.ok.noex b o e z
    . exact absurd (AE (Ao e) (AK I.ok.bsz z)) (Cb _)
  . obtain⟨_,f1,f2,_⟩:=f b hb;rcases Ax.mp (I.stkSub b hs) with z |z
    . exact f1 z
    . exact f2 z
  . have e2':((sel[j]?).map λo => o.bind λi => (σ[i]?).join)=some (some v) := by have:=e2;unfold selSt at this;rw[A8]at this;exact this
    cases hj:sel[j]? with
    |none=>rw[hj]at e2';cases e2'
    |some o =>
      rw[hj]at e2'
      cases o with
      |none=>cases e2'
      |some i =>
        have e4:(σ[i]?).join=some v:=Bu e2'
        have e5:σ[i]?=some (some v):=by
          cases q:σ[i]? with
          |none=>rw[q]at e4;cases e4
          |some z=>rw[q]at e4;exact congrArg some e4
        have hz:(some i,x)∈sel.zip N':=by
          refine AQ (i:=j) ?_
          rw[List.getElem?_zip_eq_some];exact⟨hj,e1⟩
        obtain⟨g1,g2⟩:=B.sel _ hz i rfl;obtain⟨m,hn,hl⟩:=I.loc;have m2:(x,A7)∈sc.names:=B5 g2
        have k2:X.env.kindOf x=some .cell∨X.env.kindOf x=some .free:=by show X.env.scope.names.lookup x=_∨X.env.scope.names.lookup x=_;rw[ho];exact B.free _ m2 rfl
        have v2:Vis X.env.scope x:=by
          rcases k2 with z |z
          . exact .inr (.inl z)
          . exact .inr (.inr z)
        obtain⟨u,r,l⟩:=hl i x v (by rw[hN];exact g1) e5 v2;refine⟨u,r,?_⟩;rcases l with⟨l,_⟩ |⟨_,c,e6,hc⟩
        . rcases k2 with z |z <;> (rw[l]at z;cases z)
        . obtain⟨c',hc'⟩:=Cl.has _ m2 rfl;have e7:=(Cl.old x c' hc').1;rw[e6]at e7
          cases e7
          exact .inr ⟨zbr g2,c,hc',hc.keeps old⟩
  . obtain⟨v,hc⟩:=I.cell x c (Cl.old x c e).1;exact⟨v,hc.keeps old⟩
  . show (selSt sel σ).length=N'.length;unfold selSt;rw[Ae,B.len]
theorem zjo{C:Addr}{H':Hp}{σ':St}{s':Ab}(I:Inv X pins σ H s)(f:∀b∈fp,FpOk X pins H b)(I':Inv (blk X sc cl C N' s H fp) [] σ' H' s'):Inv X pins σ H' s' :=
 I.call' (ch:=fp) I'.os I'.base I'.hok I'.bare λb hb=>by obtain⟨_,f1,_,f3,f4,f5⟩:=f b hb;exact⟨f3,f1,f4,f5⟩
end
section
variable {X:Cx}
noncomputable def zc5(p:Addr)(te:TE):TS:=λD σ H=>te σ H λv H1=>∃xs,H1 p=some (.lst xs)/\xs.length<sizeLine/\D.nx σ (upd H1 p (.lst (xs++[v])))
theorem zi5 {p:Addr}{elt:Expr}{te:TE}(he:PE X elt te):PB X (do let _ <- call (.builtin "list.append") [.ref p,<- eval elt X.env]) (zc5 p te):=by intro pins s σ H D I h;refine Ac (thn (he pins s σ H _ I h) λv s1 ⟨x,H1,I1,r1,xs,e1,hl,q⟩=>?_);refine Ac (thn (za6 pins s1 σ H1 (.ref p) [x] (.ref p) [v] (λz H2=>D.nx σ H2) I1 rfl (.cons r1 .nil) ⟨p,xs,x,rfl,rfl,e1,hl,q⟩) λu s2 ⟨z,H2,I2,_,q2⟩=>?_);exact As ⟨σ,H2,I2,q2⟩
noncomputable def zfy(p:Addr)(tk tv:TE):TS:=λD σ H=>tk σ H λy H1=>tv σ H1 λv H2=>∃H3,DPut H2 p y v H3/\D.nx σ H3
theorem d_set{pins:List (Addr × Obj)}{σ : St}{H H':Hp}{s:Ab}{a:Addr}{y v:V}{u r:Value}{A:Aw}{E:Value -> Ab -> Prop}{Q:Unit -> Ab -> Prop}(hu:A.units + 1 < cLine)(I:Inv X pins σ H s)(g:DPut H a y v H')(ry:RelV y u)(rv:RelV v r)(h:∀s', Inv X pins σ H' s' -> Q () s') :
  Aq (Ap X.prog X.w) A (dictSet a u r) Q E s:=by
 rcases g with⟨kvs,k,e,ey,l,eH⟩ |⟨kvs,k,b,e,ey,eb,l,eH⟩
 .subst ey eH;obtain⟨z,hd,vs,rel,dd⟩:=dk_of I.hok e;have hz:vs.length<=sizeLine:=by rw[<- rel.length];exact z
  have hl:(putK kvs k v).length<=sizeLine:=by have:=zbs kvs k v;lia
  refine wpAny_dictSet_pairs (hsz:=hz) (kV_is ry) dd λh' dd' hs=>h _ ?_
  have he:∃q,h'.get? a=some q:=let ⟨q,_,_,hq,_⟩:=dd';⟨q,hq⟩
  exact zej I (by rw[e];exact BS) hs he (ziC hl hd (rel.put k rv) dd')
 .subst ey eH
  cases (show u=AM b from ry)
  obtain⟨z,hd,xs,rel,dd⟩:=dt_of I.hok e;have hz:xs.length<=sizeLine:=by rw[<- Paired.length rel];exact z
  have hl:(putK kvs k v).length<=sizeLine:=by have:=zbs kvs k v;lia
  have hr:(tupleKind (zaP X.prog X.w)).room A:=by show A.units<cLine;lia
  refine wpAny_dictSet_heap (hsz:=hz) hr (zfQ I.hok eb) dd λh' dd' hs=>h _ ?_
  obtain⟨q,es,ep,hq,h2,h3,h4,_,h5⟩:=dd';refine zej I (by rw[e];exact BS) hs ⟨q,hq⟩ ⟨hl,hd,_,(rel.put k eb rv).keeps λc ys ec=>?_,q,es,ep,hq,h2,h3,h4,h5⟩;rw[zam (ne_of ec e (λz=>nomatch z))];exact ec
theorem zi6{p:Addr}{kx vx:Expr}{tk tv:TE}(hu:X.A.units + 1 < cLine)(hk:PE X kx tk)(hv:PE X vx tv) :
    PB X (do
        let kv <- eval kx X.env
        let vv <- holding [kv] (eval vx X.env)
        match AM p with
        |.ref d=>do
          standAt { kx.pos with endLine:=vx.pos.endLine,endCol:=vx.pos.endCol }
          holding [kv,vv] (dictSet d kv vv)
        |_=>unsupported "internal:dictcomp") (zfy p tk tv):=by
  intro pins s σ H D I h;refine Ac (thn (hk pins s σ H _ I h) λkv s1 ⟨y,H1,I1,r1,q1⟩=>?_);refine Ac (Bw (thn (hv pins s1 σ H1 _ I1 q1) λvv s2 ⟨v,H2,I2,r2,H3,g,q⟩=>?_));refine Ac (De (Bw (d_set hu I2 g r1 r2 λs3 I3=>⟨σ,H3,I3,q⟩)))
end
section
variable {X:Cx}{osc:Scope}{N:List Str}{sc:Scope}{N':List Str}{sel:List (Option Nat)}{pos:Pos}{elt kx vx tg iter:Expr}{ifs:List Expr}{wi:TI}{g:TG}{tt:TT}{te tk tv:TE}
noncomputable def InBlk(X:Cx)(sc:Scope)(N':List Str)(P:Cx->Prop):Prop:=∀cl C s0 H0 ex,P (blk X sc cl C N' s0 H0 ex)
theorem zdn{e:Expr}{inner:Env -> Addr -> Sem Unit}{tb:Addr -> TS}{use:Option (Value -> Sem Unit)}{pins:List (Addr × Obj)}{s:Ab}{σ : St}{H:Hp}{J:It}{it:Addr}{fp:List Addr}{tn:Nat -> Heap -> Prop}{o0:HO}{ob:Obj}
    {D:Addr->Ends} {Q:Value->Ab->Prop}
    (B:BlkOk osc N sc N' sel) (ho:X.env.scope=osc) (hN:X.N=N) (hc:X.calm=true)
    (hstart:∀(acc:Value) (env:Env) (R:Result->Ab->Prop) (s:Ab),CC (Ap X.prog X.w) X.A (.compLoop e 0 (.ref it) acc env) R s->Aq (Ap X.prog X.w) X.A (pyIter (.ref it)) (λit' s'=>CC (Ap X.prog X.w) X.A (.compLoop e 0 it' acc env) R s') (notedBy (Ap X.prog X.w) X.A env λx s'=>R (.error x) s') s->CC (Ap X.prog X.w) X.A (.compStart e 0 (.ref it) acc env) R s)
    (hloop:∀cl C s0 H0 ex p pins s σ H Dn R,Inv (blk X sc cl C N' s0 H0 ex) pins σ H s->tn 0 s.heap->(∀b∈fp,FpOk (blk X sc cl C N' s0 H0 ex) pins H b)->zcm J g (tIfs tt (tb p)) Dn σ H ->
      (∀fl s',(∃ σ' H',Inv (blk X sc cl C N' s0 H0 ex) pins σ' H' s'/\(∀b∈fp,H' b=none)/\Dn.nx σ' H')->R (.ok fl) s')->CC (Ap X.prog X.w) X.A (.compLoop e 0 (.ref it) (.ref p) (compEnvC sc cl C X.env)) R s)
    (I:Inv X pins σ H s) (T:Turn X.prog X.w X.K tg J fp it tn) (st:tn 0 s.heap) (f:∀b∈fp,FpOk X pins H b)
    (hnew:ObjOk X.prog X.w (upd H s.heap.objs.size o0) (s.heap.push ob) s.heap.objs.size o0) (hfree:ob.isFreed=false)
    (h:zcm J g (tIfs tt (tb s.heap.objs.size)) (D s.heap.objs.size) (selSt sel σ) (upd H s.heap.objs.size o0))
    (hend:∀C H' s',Inv X pins σ H' s'->FpOk X pins H' C->(∃m,s'.heap.Ns C m)->(∃ σ',(D s.heap.objs.size).nx σ' H')->compPost (Ap X.prog X.w) X.A X.xe use Q (.ref s.heap.objs.size) C (.ok .next) s') (tk:Nat)
    (cl:List (Str×Addr)) (Cl:Clo X.env sc cl) (E:Value->Ab->Prop) :
    Aq (Ap X.prog X.w) X.A (newFunctionEnv sc X.env.globals cl [] X.env.qual none .none (some X.env)) (λcenv s₄ =>
        CC (Ap X.prog X.w) X.A (.compStart e 0 (.ref it) (.ref s.heap.objs.size) { cenv with scope:=relabel sc X.env }) (compPost (Ap X.prog X.w) X.A X.xe use Q (.ref s.heap.objs.size) cenv.locals) s₄) E { s with heap:=s.heap.push ob,toks:=tk }:=by
  have grow:∀b o,s.heap.get? b=some o->(s.heap.push ob).get? b=some o:=λ_ _ q=>Ag _ q
  have I1:Inv X pins σ (upd H s.heap.objs.size o0) { s with heap:=s.heap.push ob,toks:=tk }:=I.laid grow (Ai _) hnew;have bel:∀b∈fp,∃o,s.heap.get? b=some o:=λb hb=>let ⟨o,e,_⟩:=T.obj _ _ st b hb;⟨o,e⟩
  have f1:∀b∈fp,FpOk X pins (upd H s.heap.objs.size o0) b:=λb hb=>by obtain⟨o,e⟩:=bel b hb;refine⟨?_,(f b hb).2⟩;rw[zam (AS (Ao e))];exact (f b hb).1
  refine wpAny_newFunctionEnv (s:={ s with heap:=s.heap.push ob,toks:=tk }) B.nocell (by intro x hx;cases hx) (λh1 hns hsb=>?_) B.kind;have I2:=zjf (tk:=tk) B ho hN Cl I1 f1 (λb hb=>let ⟨o,e⟩:=bel b hb;⟨o,grow b o e⟩) hns hsb;have old:∀b o,s.heap.get? b=some o->h1.get? b=some o:=λb o e=>(hsb.2 b (AS (Ao (grow b o e)))).trans (Ag _ (grow b o e))
  have st1:tn 0 h1:=T.keep _ _ _ st λb _ o e=>old b o e
  have f2:∀b∈fp,FpOk (blk X sc cl (s.heap.push ob).objs.size N' { s with heap:=s.heap.push ob,toks:=tk } (upd H s.heap.objs.size o0) fp) [] (upd H s.heap.objs.size o0) b:=λb hb=>by
    obtain⟨g0,g1,g2,g3,g4,g5⟩:=f1 b hb;obtain⟨o,e⟩:=bel b hb;refine⟨g0,AS (Ao (grow b o e)),λz=>?_,.inl hb,λx c e=>g4 x c (Cl.old x c e).1,λp hp=>absurd (show p∈([]:List (Addr×Obj)) from hp) (by simp)⟩;rcases Ax.mp (I1.stkSub b z) with q |q
    . exact g1 q
    . exact g2 q
  have loop:=hloop cl _ _ _ _ s.heap.objs.size [] _ _ _ (D s.heap.objs.size) (compPost (Ap X.prog X.w) X.A X.xe use Q (.ref s.heap.objs.size) (s.heap.push ob).objs.size) I2 st1 f2 h λfl s' ⟨σ',H',I',fr',q'⟩=>by
    have I3:=zjo I1 f1 I';have hC:FpOk X pins H' (s.heap.push ob).objs.size:=I1.fpOk (Ai _) I'.free;obtain⟨m,hn,_⟩:=I'.loc;have:=hend _ H' s' I3 hC ⟨m,hn⟩ ⟨σ',q'⟩
    cases use <;> exact this
  exact hstart _ _ _ _ loop (T.self _ 0 _ _ _ st1 loop)
end
section
variable {X:Cx}{osc:Scope}{N:List Str}{sc:Scope}{N':List Str}{sel:List (Option Nat)}{pos:Pos}{elt kx vx tg iter:Expr}{ifs:List Expr}{wi:TI}{g:TG}{tt:TT}{te tk tv:TE}
theorem zdU{it:Addr}{fp:List Addr}{tn:Nat -> Heap -> Prop}{J:It}(T:Turn X.prog X.w X.K tg J fp it tn)(hc:X.calm=true)(hg:InBlk X sc N' λY => PG Y tg g)(ht:InBlk X sc N' λY => PTs Y ifs tt)(he:InBlk X sc N' λY => PE Y elt te) :
  ∀cl C s0 H0 ex p pins s σ H Dn R,Inv (blk X sc cl C N' s0 H0 ex) pins σ H s->tn 0 s.heap->(∀b∈fp,FpOk (blk X sc cl C N' s0 H0 ex) pins H b)->zcm J g (tIfs tt (zc5 p te)) Dn σ H ->
   (∀fl s',(∃ σ' H',Inv (blk X sc cl C N' s0 H0 ex) pins σ' H' s'/\(∀b∈fp,H' b=none)/\Dn.nx σ' H')->R (.ok fl) s')->CC (Ap X.prog X.w) X.A (.compLoop (.ListComp elt [⟨tg,iter,ifs,0⟩] sc pos) 0 (.ref it) (.ref p) (compEnvC sc cl C X.env)) R s :=
 λcl C s0 H0 ex p pins s σ H Dn R I st f W hR =>
  zeZ (X:=blk X sc cl C N' s0 H0 ex) (p:=iter.pos) (inner:=do let _ <- call (.builtin "list.append") [.ref p,<- eval elt (compEnvC sc cl C X.env)]) rfl rfl rfl (λB {α t Q E s} h w=>by subst h;exact w) hc rfl (hg _ _ _ _ _) (ht _ _ _ _ _) (zi5 (he _ _ _ _ _)) I T st f W hR
noncomputable def zfz(wi:TI)(sel:List (Option Nat))(g:TG)(tt:TT)(te:TE):TE:=λσ H Q=>wi σ H λJ H1=>∀p,H1 p=none ->
 zcm J g (tIfs tt (zc5 p te)) { nx:=λ_ H'=>Q (.ref p) H',rt:=λ_ _=>False } (selSt sel σ) (upd H1 p (.lst []))
theorem Inv.let_go{pins:List (Addr×Obj)}{σ:St}{H:Hp}{s:Ab}{C:Addr}{h':Heap}(I:Inv X pins σ H s)(f:FpOk X pins H C)(hs:BK C s.heap h'):Inv X pins σ H { s with heap:=h' }:=by obtain⟨f0,f1,_,f3,f4,f5⟩:=f;exact I.turned (t':=s.toks) (λb o hb e=>(hs.2 b hb).trans e) f0 f1 f3 f4 f5
theorem zg6 {P:Am}{w:AB}{H:Hp}{h:Heap}:ObjOk P w (upd H h.objs.size (.lst [])) (h.push { cls:=.type "list",dict:=none,data:=.seq ([]:List Value).toArray }) h.objs.size (.lst []) :=
 ⟨A1 _,[],_,.nil,Ar _ rfl⟩
theorem zaO(B:BlkOk osc N sc N' sel)(hi:PI X tg iter wi)(hg:InBlk X sc N' λY => PG Y tg g)(ht:InBlk X sc N' λY => PTs Y ifs tt)(he:InBlk X sc N' λY => PE Y elt te)
  (ho:X.env.scope=osc:=by rfl) (hN:X.N=N:=by rfl) (hc:X.calm=true:=by rfl) (hs:∀x,foldedSetIterable iter X.env x=pure x:=by intro _;rfl) :
  PE X (.ListComp elt [⟨tg,iter,ifs,0⟩] sc pos) (zfz wi sel g tt te):=by
 intro pins s σ H Q I h;obtain⟨cl,Cl⟩:=zhq I.ok B ho;rw[eval_ListComp];refine Dg (use:=none) rfl hs Cl.run B.kind B.names (thn (hi pins s σ H _ I h) λv s1 h1=>thn h1 λitv s2 h2=>?_);obtain⟨it,fp,tn,J,H2,e,I2,T,st2,f2,h2⟩:=h2;subst e
 refine CQ (zdn (e:=.ListComp elt [⟨tg,iter,ifs,0⟩] sc pos) (inner:=λ_ _=>pure ()) (D:=λp=>{ nx:=λ_ H'=>Q (.ref p) H',rt:=λ_ _=>False }) (tb:=λp=>zc5 p te) (use:=none) B ho hN hc (λacc env R s a b=>codeAny_compStart_list a b)
  (zdU (iter:=iter) (pos:=pos) T hc hg ht he) I2 T st2 f2 zg6 rfl (h2 _ (I2.hok.fresh (Ai _))) (λC H' s' I3 fC hn hq=>?_) s2.toks cl Cl X.xe)
 obtain⟨m,hn⟩:=hn;obtain⟨_,hq⟩:=hq;exact⟨m,hn,λh' hs'=>⟨.ref s2.heap.objs.size,H',I3.let_go fC hs',rfl,hq⟩⟩
noncomputable def zik(wi:TI)(sel:List (Option Nat))(g:TG)(tt:TT)(te:TE)(i:Nat):TS:=λD σ H=>wi σ H λJ H1=>∀p,H1 p=none ->
 zcm J g (tIfs tt (zc5 p te)) { nx:=λ_ H'=>D.nx (σ.set i (some (.ref p))) H',rt:=λ_ _=>False } (selSt sel σ) (upd H1 p (.lst []))
theorem zfJ{i:Nat}{x:Str}{px spos:Pos}(B:BlkOk osc N sc N' sel)(hnd:X.N.Nodup)(hi':X.N[i]? = some x)(hx:Loc X.env.scope x)(hi:PI X tg iter wi)(hg:InBlk X sc N' λY => PG Y tg g)(ht:InBlk X sc N' λY => PTs Y ifs tt)(he:InBlk X sc N' λY => PE Y elt te)
  (hsw:swapsWith (.ListComp elt [⟨tg,iter,ifs,0⟩] sc pos) (some (.Name x px)) spos.line X.env=pure true:=by rfl)
  (ho:X.env.scope=osc:=by rfl) (hN:X.N=N:=by rfl) (hc:X.calm=true:=by rfl) (hs:∀x,foldedSetIterable iter X.env x=pure x:=by intro _;rfl)
  (hf:X.fn x=true∨X.env.scope.names.lookup x=some .local:=by first |exact .inl rfl |exact .inr rfl |assumption) :
  PS X (.Assign [.Name x px] (.ListComp elt [⟨tg,iter,ifs,0⟩] sc pos) spos) (zik wi sel g tt te i):=by
 intro pins s σ H D I h;obtain⟨cl,Cl⟩:=zhq I.ok B ho;rw[exec_Assign_Name_used _ _ _ _ hsw];refine Ac (De (Ac ?_));show Aq _ X.A (do let _ <- comprehension (.ListComp elt [⟨tg,iter,ifs,0⟩] sc pos) sc X.env _ (newList []) false (eval iter X.env) (some (assign (.Name x px) X.env))) _ _ s;refine Ac (thn (Dg (use:=some (assign (.Name x px) X.env)) (Q:=λ_ s'=>SP X pins D .next s') rfl hs Cl.run B.kind B.names (thn (hi pins s σ H _ I h) λv s1 h1=>thn h1 λitv s2 h2=>?_)) λ_ s' hq=>As (As hq));obtain⟨it,fp,tn,J,H2,e,I2,T,st2,f2,h2⟩:=h2;subst e
 refine CQ (zdn (e:=.ListComp elt [⟨tg,iter,ifs,0⟩] sc pos) (inner:=λ_ _=>pure ()) (D:=λp=>{ nx:=λ_ H'=>D.nx (σ.set i (some (.ref p))) H',rt:=λ_ _=>False }) (tb:=λp=>zc5 p te) (use:=some (assign (.Name x px) X.env)) B ho hN hc (λacc env R s a b=>codeAny_compStart_list a b)
  (zdU (iter:=iter) (pos:=pos) T hc hg ht he) I2 T st2 f2 zg6 rfl (h2 _ (I2.hok.fresh (Ai _))) (λC H' s' I3 fC hn hq=>?_) s2.toks cl Cl X.xe)
 obtain⟨m,hn⟩:=hn;obtain⟨_,hq⟩:=hq;show Aq _ X.A (assign (.Name x px) X.env (.ref s2.heap.objs.size)) _ _ _;refine wpAny_assign_Name (zey I3 hnd hi' hx (v:=.ref s2.heap.objs.size) rfl (λs4 I4 hch=>?_) hf);obtain⟨a,sb,ha⟩:=hch
 have nC:C≠a:=by
  rcases ha with z |z
  .rw[z];exact fC.2.1
  .exact λq=>fC.2.2.2.2.1 x a z q.symm
 refine⟨m,hn.sameBut sb nC,λh' hs'=>⟨_,H',I4.let_go fC hs',hq⟩⟩
theorem zgf{it:Addr}{fp:List Addr}{tn:Nat -> Heap -> Prop}{J:It}(hu:X.A.units + 1 < cLine)(T:Turn X.prog X.w X.K tg J fp it tn)(hc:X.calm=true)(hg:InBlk X sc N' λY => PG Y tg g)(ht:InBlk X sc N' λY => PTs Y ifs tt)(hk:InBlk X sc N' λY => PE Y kx tk)(hv:InBlk X sc N' λY => PE Y vx tv) :
  ∀cl C s0 H0 ex p pins s σ H Dn R,Inv (blk X sc cl C N' s0 H0 ex) pins σ H s->tn 0 s.heap->(∀b∈fp,FpOk (blk X sc cl C N' s0 H0 ex) pins H b)->zcm J g (tIfs tt (zfy p tk tv)) Dn σ H ->
   (∀fl s',(∃ σ' H',Inv (blk X sc cl C N' s0 H0 ex) pins σ' H' s'/\(∀b∈fp,H' b=none)/\Dn.nx σ' H')->R (.ok fl) s')->CC (Ap X.prog X.w) X.A (.compLoop (.DictComp kx vx [⟨tg,iter,ifs,0⟩] sc pos) 0 (.ref it) (.ref p) (compEnvC sc cl C X.env)) R s :=
 λcl C s0 H0 ex p pins s σ H Dn R I st f W hR =>
  zeZ (X:=blk X sc cl C N' s0 H0 ex) (p:=iter.pos) rfl rfl rfl (λB {α t Q E s} h w=>by subst h;exact w) hc rfl (hg _ _ _ _ _) (ht _ _ _ _ _) (zi6 (X:=blk X sc cl C N' s0 H0 ex) hu (hk _ _ _ _ _) (hv _ _ _ _ _)) I T st f W hR
noncomputable def zjD(wi:TI)(sel:List (Option Nat))(g:TG)(tt:TT)(tk tv:TE):TE:=λσ H Q=>wi σ H λJ H1=>∀p,H1 p=none ->
 zcm J g (tIfs tt (zfy p tk tv)) { nx:=λ_ H'=>Q (.ref p) H',rt:=λ_ _=>False } (selSt sel σ) (upd H1 p (.dT []))
theorem zhQ(hu:X.A.units + 1 < cLine)(B:BlkOk osc N sc N' sel)(hi:PI X tg iter wi)(hg:InBlk X sc N' λY => PG Y tg g)(ht:InBlk X sc N' λY => PTs Y ifs tt)(hk:InBlk X sc N' λY => PE Y kx tk)(hv:InBlk X sc N' λY => PE Y vx tv)
  (ho:X.env.scope=osc:=by rfl) (hN:X.N=N:=by rfl) (hc:X.calm=true:=by rfl) (hs:∀x,foldedSetIterable iter X.env x=pure x:=by intro _;rfl) :
  PE X (.DictComp kx vx [⟨tg,iter,ifs,0⟩] sc pos) (zjD wi sel g tt tk tv):=by
 intro pins s σ H Q I h;obtain⟨cl,Cl⟩:=zhq I.ok B ho;show Aq _ X.A (comprehension (.DictComp kx vx [⟨tg,iter,ifs,0⟩] sc pos) sc X.env _ newDict false (eval iter X.env)) _ _ s;refine Dg (use:=none) rfl hs Cl.run B.kind B.names (thn (hi pins s σ H _ I h) λv s1 h1=>thn h1 λitv s2 h2=>?_);obtain⟨it,fp,tn,J,H2,e,I2,T,st2,f2,h2⟩:=h2;subst e
 refine CQ (zdn (e:=.DictComp kx vx [⟨tg,iter,ifs,0⟩] sc pos) (inner:=λ_ _=>pure ()) (D:=λp=>{ nx:=λ_ H'=>Q (.ref p) H',rt:=λ_ _=>False }) (tb:=λp=>zfy p tk tv) (use:=none) B ho hN hc (λacc env R s a b=>codeAny_compStart_dict a b)
  (zgf (iter:=iter) (pos:=pos) hu T hc hg ht hk hv) I2 T st2 f2 (zfW s2.heap I2.big) rfl (h2 _ (I2.hok.fresh (Ai _))) (λC H' s' I3 fC hn hq=>?_) s2.toks cl Cl X.xe)
 obtain⟨m,hn⟩:=hn;obtain⟨_,hq⟩:=hq;exact⟨m,hn,λh' hs'=>⟨.ref s2.heap.objs.size,H',I3.let_go fC hs',rfl,hq⟩⟩
end
mutual
inductive RD (K:W.Frag) (H:Hp):V->PyData->Prop where
 |non:RD K H .non .none
 |bl (b:Bool):RD K H (.bl b) (.bool b)
 |int (i:Int):RD K H (.int i) (.int i)
 |str (x:Str):RD K H (.str x) (.str x)
 |lst {a:Addr} {xs:List V} {ds:List PyData}:SqL K H a xs->RDs K H xs ds->RD K H (.ref a) (.list ds)
 |tup {a:Addr} {xs:List V} {ds:List PyData}:SqT K H a xs->RDs K H xs ds->RD K H (.ref a) (.tuple ds)
inductive RDs (K:W.Frag) (H:Hp):List V->List PyData->Prop where
 |nil:RDs K H [] []
 |cons {x:V} {xs:List V} {d:PyData} {ds:List PyData}:RD K H x d->RDs K H xs ds->RDs K H (x::xs) (d::ds)
end
section
variable {X:Cx}{pins:List (Addr×Obj)}{σ:St}{H:Hp}{s:Ab}
mutual
theorem Inv.reads(I:Inv X pins σ H s):∀{v:V}{d:PyData}{u:Value},RD X.K H v d->RelV v u->∃as,Reads s.heap u d as
 |_,_,_,.non,r=>by cases (show _=BQ from r);exact⟨_,.none⟩
 |_,_,_,.bl b,r=>by cases (show _=Value.bool b from r);exact⟨_,.bool b⟩
 |_,_,_,.int i,r=>by obtain⟨t,rfl⟩:=r;exact⟨_,.int i t⟩
 |_,_,_,.str x,r=>by obtain⟨t,rfl⟩:=r;exact⟨_,.str x t⟩
 |_,_,_,.lst (a:=a) hq hs,r=>by
  cases (show _=AM a from r)
  obtain⟨its,rv,p,hz⟩:=I.list hq;obtain⟨as,ra⟩:=I.readsAll hs rv;obtain⟨o,ho,hc,n,hd⟩:=p.isList;exact⟨_,.list ho hc hd (by simpa using ra)⟩
 |_,_,_,.tup (a:=a) hq hs,r=>by
  cases (show _=AM a from r)
  obtain⟨its,rv,p,hz⟩:=I.tuple hq;obtain⟨as,ra⟩:=I.readsAll hs rv;obtain⟨o,ho,hc,n,hd⟩:=p;exact⟨_,.tuple ho hc hd (by simpa using ra)⟩
theorem Inv.readsAll(I:Inv X pins σ H s):∀{vs:List V}{ds:List PyData}{us:List Value},RDs X.K H vs ds->Vals vs us->∃as,ReadsAll s.heap us ds as
 |_,_,_,.nil,r=>by cases r;exact⟨_,.nil⟩
 |_,_,_,.cons h t,.cons r rr=>by
  obtain⟨as,h1⟩:=I.reads h r;obtain⟨bs,h2⟩:=I.readsAll t rr;exact⟨_,.cons h1 h2⟩
end
end
theorem RDs.ints{K:W.Frag}{H:Hp}:∀(ns:List Int),RDs K H (ns.map V.int) (ns.map CW)
 |[]=>.nil
 |n::r=>.cons (.int n) (RDs.ints r)
mutual
theorem RD.mono{K:W.Frag}{H H':Hp}(hl:∀a xs,SqL K H a xs->SqL K H' a xs)(ht:∀a xs,SqT K H a xs->SqT K H' a xs):∀{v:V}{d:PyData},RD K H v d->RD K H' v d
 |_,_,.non=>.non
 |_,_,.bl b=>.bl b
 |_,_,.int i=>.int i
 |_,_,.str x=>.str x
 |_,_,.lst h t=>.lst (hl _ _ h) (RDs.mono hl ht t)
 |_,_,.tup h t=>.tup (ht _ _ h) (RDs.mono hl ht t)
theorem RDs.mono{K:W.Frag}{H H':Hp}(hl:∀a xs,SqL K H a xs->SqL K H' a xs)(ht:∀a xs,SqT K H a xs->SqT K H' a xs):∀{v:List V}{d:List PyData},RDs K H v d->RDs K H' v d
 |_,_,.nil=>.nil
 |_,_,.cons h t=>.cons (RD.mono hl ht h) (RDs.mono hl ht t)
end
noncomputable def rEqD(K:W.Frag):R2:=λx y H Q=>∃d e,RD K H x d/\RD K H y e/\A0 d=true/\A0 e=true/\Q (.bl (B4 d e)) H
section
variable {X:Cx}
theorem zg1(hu:X.A.units+64<cLine):OpR X (Bp .Eq) (rEqD X.K):=by intro pins s σ H x y v u Q I rx ry h;obtain⟨d,e,hd,he,sd,se,q⟩:=h;obtain⟨as,ra⟩:=I.reads hd rx;obtain⟨bs,rb⟩:=I.reads he ry;exact SeqAt.compareEq_shaped ra rb sd se hu ⟨.bl _,H,I,rfl,q⟩
theorem ze2{ds:List PyData}(h:∀e∈ds,A0 e=true):BC ds=true:=by
 induction ds with
 |nil=>rfl
 |cons d r ih=>rw[BC,SeqAt.canLay_of_shaped (h d A4),ih λe he=>h e (AH _ he)];rfl
theorem zdl:∀ns ms:List Int,CM (ns.map CW) (ms.map CW)=decide (ns=ms)
 |[],[]=>rfl
 |[],_::_=>rfl
 |_::_,[]=>rfl
 |n::r,m::t=>by
  show (n == m && CM (r.map CW) (t.map CW))=_;rw[zdl r t]
  by_cases e:n=m
  .subst e;by_cases e2:r=t <;> simp[e2]
  .simp[e]
theorem zbQ:∀ns:List Int,Ck (ns.map CW)=0
 |[]=>rfl
 |n::r=>by show max 0 (Ck (r.map CW))=0;rw[zbQ r];rfl
theorem zcc:∀ns:List Int,BC (ns.map CW)=true
 |[]=>rfl
 |n::r=>by show (true && BC (r.map CW))=true;rw[zcc r];rfl
noncomputable def tI(ns:List Int):PyData:=.tuple (ns.map .int)
theorem zj1(ns ms:List Int):B4 (tI ns) (tI ms)=decide (ns=ms):=zdl ns ms
theorem zgJ(ns:List Int):A0 (tI ns)=true:=by unfold A0 tI;rw[BX,zcc,BW,zbQ];rfl
end
section
variable {prog:Am}{w:AB}{A:Aw}{E:Value->Ab->Prop}{s:Ab}
theorem zeX{it t:Addr}{items:Array Value}(hne:t ≠ it):∀(n i:Nat) (s:Ab) (Q:List Value -> Ab -> Prop), s.heap.IsListIter it t i -> s.heap.IsList t items -> i + n <= items.size ->
  (∀h',h'.IsListIter it t (i+n)->BK it s.heap h'->Q ((items.toList.drop i).take n) { s with heap:=h' })->Aq (Ap prog w) A (draw (.ref it) n) Q E s
 | 0,i,s,Q,hit,_,_,hQ=>by
  show Aq _ _ (pure []) Q E s;exact As (by simpa using hQ s.heap hit (Heap.SameBut.refl ..))
 |n+1,i,s,Q,hit,ht,hle,hQ=>by
  have hlt:i<items.size:=by lia
  show Aq _ _ (pyNext (.ref it) >>= _) Q E s;refine Ac (wpAny_pyNext_list_item hit ht (x:=items[i]) (by simp[hlt]) λh₁ hit₁ hs₁=>?_);refine Ac (Bw (zeX hne n (i+1) _ _ hit₁ (ht.extBut hs₁.extBut hne) (by lia) λh₂ hit₂ hs₂=>As ?_));have hd:items.toList.drop i=items[i]::items.toList.drop (i+1):=by simp[BP,hlt]
  have:=hQ h₂ (by rw[show i+(n+1)=i+1+n by lia];exact hit₂) (hs₁.trans hs₂);rw[hd,List.take_succ_cons]at this;exact this
theorem zcY{t:Addr}{items:Array Value}{Q:List Value -> Ab -> Prop}(hh:A.handled=none)(ht:s.heap.IsList t items)
  (hQ:∀h',Heap.ExtBut s.heap.objs.size s.heap h'->Q items.toList { s with heap:=h' }):Aq (Ap prog w) A (unpackItems (.ref t) items.size none) Q E s:=by
 have hlt:t≠s.heap.objs.size:=by obtain⟨o,ho,_⟩:=ht;exact AS (Ao ho)
 unfold unpackItems;refine Ac ?_
 .unfold notIterableAtAll;refine Ac (wpAny_specialOf ht.typeIs PySem.F.slot_list_iter.lookup ?_);refine As ?_
  simp only[Bool.false_eq_true,if_false];refine Ac (Bw (wpAny_pyIter_list ht ?_));refine Ac (Bw (zeX hlt items.size 0 _ _ ⟨_,Ar _ rfl,rfl,rfl⟩ (ht.push _) (by lia) λh₁ hit₁ hs₁=>?_))
  have hall:List.take items.size (List.drop 0 items.toList)=items.toList:=by rw[CY];exact AL (by simp)
  rw[hall];rw[if_neg (by simp)];have ht₁:h₁.IsList t items:=(ht.push _).extBut hs₁.extBut hlt;refine Ac (Bw (wpAny_pyNext_list_end hh hit₁ ht₁ (by simp) λh₂ he₂=>?_));simp only[Option.isSome_none,Bool.false_eq_true,if_false];refine As (hQ h₂ λb o hb e=>he₂ b o hb (hs₁.extBut b o hb (Ag _ e)))
theorem zcI{env:Env}{elts:List Expr}{x1}{pos:Pos}{t:Addr}{items:Array Value}{Q:Unit -> Ab -> Prop}(hh:A.handled=none)(ht:s.heap.IsList t items)
  (hn:(B2 elts env).length=items.size) (hstar:(B2 elts env).findIdx? (·.1)=none)
  (h:∀h',Heap.ExtBut s.heap.objs.size s.heap h'->Aq (Ap prog w) A (assignInOrder ((B2 elts env).map (·.2)) items.toList) Q E { s with heap:=h' }) :
  Aq (Ap prog w) A (assign (.Tuple elts x1 pos) env (.ref t)) Q E s:=by
 rw[assign_Tuple];refine Ac (De ?_);unfold unpack;rw[hn,hstar];exact Ac (Bw (zcY hh ht h))
end
section
variable {X:Cx}{pos:Pos}
noncomputable def gLst(K:W.Frag)(n:Nat)(t:TGs):TG:=λv σ H Q=>∃a xs,v=.ref a/\SqL K H a xs/\xs.length=n/\t xs σ H Q
theorem zgX{es:List Expr}{k:Nat}{t:TGs}{n:Nat}(hc:X.calm=true)(h:PGs X es t)
  (hn:(B2 es X.env).length=n:=by rfl) (hst:(B2 es X.env).findIdx? (·.1)=none:=by rfl):PG X (.Tuple es k pos) (gLst X.K n t):=by
 intro pins s σ H v u Q I r hw;obtain⟨a,xs,e1,hq,hl,hw⟩:=hw;subst e1
 cases r
 obtain⟨its,rv,ht,hz⟩:=I.list hq;refine zcI (I.ok.hd hc) ht.isList (by simp[hn,<- hl,rv.length]) hst λh' hx=>?_
 have I1:Inv X pins σ H { s with heap:=h' }:=I.kept (t':=s.toks) λb o e=>hx b o (AS (Ao e)) e
 exact h pins _ σ H xs _ Q I1 (by simpa using rv) hw
noncomputable def CDivB(i j:Int):Prop:=0<j/\j.natAbs.log2<9000
theorem zhT:OpR X (Cu .FloorDiv) (rI CDivB λi j=>.int (i / j)):=opI λi j _ _ _ _ _ hc q=>by have e:i.fdiv j=i / j:=Int.fdiv_eq_ediv_of_nonneg i (Int.le_of_lt hc.1);rw[<- e]at q;exact floordiv_int (by have:=hc.1;lia) q (.inl (PyProof.noPylong_of_log2 hc.2))
theorem zcz (hh:X.calm=true):CallR X (.builtin "all") (λxs H Q=>∃(p:Addr) (bs:List Bool),xs=[.ref p]/\SqL X.K H p (bs.map V.bl)/\Q (.bl (bs.all id)) H):=by
 intro pins s σ H xs us Q I r h;obtain⟨p,bs,rfl,hq,q⟩:=h;obtain⟨u,rfl,ru⟩:=vals1 r
 cases (show u=AM p from ru)
 obtain⟨its,rv,pl,hz⟩:=I.list hq;have hlp:p<s.heap.objs.size:=by obtain⟨o,ho,_⟩:=pl.isList;exact Ao ho
 have hlen:its.length=bs.length:=by have:=rv.length;simpa using this.symm
 refine call_all_walk (wpAny_pyIter_list pl.isList ?_);refine⟨_,_,_,_,_,_,λi=>bs.getD i true,rfl,Walks.list (A:=X.A.in1) (I.ok.hd hh) s.heap.objs.size p (AS hlp) its.toArray,⟨⟨_,Ar _ rfl,rfl,rfl⟩,pl.isList.push _⟩,?_,λh' tk hk=>?_⟩
 .intro i v s1 Q1 E1 hv hQ;have hv':its[i]?=some v:=by simpa using hv
  have hi:i<its.length:=(Aj.mp hv').1;obtain⟨w',hw,rw'⟩:=rv.get (i:=i) (x:=V.bl (bs[i]'(by lia))) (by simp[Ad,show i<bs.length by lia]);rw[hv']at hw
  cases hw
  cases (show v=Value.bool _ from rw')
  refine Bk ?_
  have e:bs.getD i true=bs[i]'(by lia):=by simp[Ah,show i<bs.length by lia]
  rw[<- e];exact hQ
 .have I1:Inv X pins σ H { s with heap:=h',toks:=tk }:=I.kept λb o e=>hk b o (by simp;exact AS (Ao e)) (Ag _ e)
  refine⟨.bl _,H,I1,rfl,?_⟩
  have e:(A3 its.toArray.size).all (λi=>bs.getD i true)=bs.all id:=by
   rw[show its.toArray.size=bs.length by simpa using hlen];rw[Cj];simp only[List.all_eq_true,List.mem_range,id];constructor
   .intro h b hb;obtain⟨i,hi,e⟩:=Ct hb;have:=h i hi;simpa[Ah,hi,e]using this
   .intro h i hi;have:=h bs[i] (Bz hi);simpa[Ah,hi]using this
  rw[e];exact q
end
section
variable {X:Cx}
theorem zfZ:CallR X (.builtin "isinstance") (λxs H Q=>∃x T t b,xs=[x,.ty T]/\TyOf X.K H x t/\W.kitOne X.K t (.type T)=some b/\Q (.bl b) H):=by
 intro pins s σ H xs us Q I r h;obtain⟨x,T,t,b,rfl,ty,e,q⟩:=h;obtain⟨u,w',rfl,ru,rw'⟩:=vals2 r
 cases (show w'=Value.type T from rw')
 exact zha I ru ty e λtk=>⟨.bl b,H,I.tok tk,rfl,q⟩
end
end L2
namespace HT
open PySem PyProof.Rows
noncomputable def lexLe:List Int->List Int->Bool
 |[],[]=>true
 |[],_::_=>true
 |_::_,[]=>false
 |x::xs,y::ys=>if x=y then lexLe xs ys else decide (x<=y)
theorem zdP(x y:Int)(xs ys:List Int):lexLe (x::xs) (y::ys)=if x=y then lexLe xs ys else decide (x<=y):=rfl
theorem zef:lexLe [] []=true:=rfl
theorem zdA(y:Int)(ys:List Int):lexLe [] (y::ys)=true:=rfl
theorem zdB(x:Int)(xs:List Int):lexLe (x::xs) []=false:=rfl
theorem zhJ(A:Aw)(s:Ab)(a:Int)(t:Tok)(c:Int)(u:Tok)(prog:Am)(w:AB)(E:Value -> Ab -> Prop)(Q:Value -> Ab -> Prop)(h:Q (.bool (decide (a <= c))) s) :
  Aq (Ap prog w) A (richCompare .LtE (.int a t) (.int c u)) Q E s :=
 (PyProof.Rows.le_int h:Aq (Ap prog w) A (Bp .LtE (.int a t) (.int c u)) Q E s)
section
open PySem.SeqAt
open PySem.AutoSeq1 (wpAny_loadPart')
open PySem.MeetsSeq PySem.MeetsSeq2 PySem.MeetsSeq3
theorem zdW(l b:Addr)(items items2:Array Value)(n n2:Nat)(dd dd2:Option Addr)(sl sl2:Array (Option Value))(ns ms:List Int)(hi:C1 items.toList ns)(hj:C1 items2.toList ms) :
  Meets (Builtin.«tuple.__le__» ⟨[.ref l,.ref b],[]⟩)
   (λ_ R s=>s.heap.get? l=some { cls:=.type "tuple",dict:=dd,data:=.seq items n,slots:=sl }/\s.heap.get? b=some { cls:=.type "tuple",dict:=dd2,data:=.seq items2 n2,slots:=sl2 } /\
    R (.ok (.ret (.bool (lexLe ns ms)))) s) :=
 .of_wp λprog w A R s h=>by
  obtain⟨hp,g,d,tk,os⟩:=s;obtain⟨hl,hb,h⟩:=h;have f2:=AutoSeq1.sub_tuple_tuple;have z1:items.size=ns.length:=by rw[<- hi.length];simp
  have z2:items2.size=ms.length:=by rw[<- hj.length];simp
  wp_walk using CK hl,CK hb,wpAny_forIn_list _ (λrest b s'=>b.1=none/\s'=⟨hp,g,d,tk,os⟩/\∃(vs ws:List Value) (ns' ms':List Int),rest=vs.zip ws /\
   C1 vs ns'/\C1 ws ms'/\ns'.length+items2.size=ms'.length+items.size/\R (.ok (.ret (.bool (lexLe ns' ms')))) ⟨hp,g,d,tk,os⟩) _
  case turn =>
   rintro⟨y,x⟩ rest b s' ⟨hb',rfl,vs,ws,ns',ms',hz,hvi,hwi,hlen,hR⟩
   cases hvi with
   |nil=>rw[List.zip_nil_left]at hz;cases hz
   |cons a t hvi' =>
    cases hwi with
    |nil=>rw[List.zip_nil_right]at hz;cases hz
    |cons c u hwi' =>
     rw[List.zip_cons_cons]at hz;injection hz with hyx hrest;injection hyx with hy hx;subst hy hx;rw[zdP]at hR;simp only[AD]at hlen;obtain⟨e,he,hiff⟩:=zh4 A.in1 ⟨hp,g,d,tk,os⟩ a t c u;refine Ac (he prog w _ _ ?_)
     cases e with
     |true =>
      rw[if_pos (hiff.mp rfl)]at hR
      wp_walk
      exact⟨rfl,rfl,_,_,_,_,hrest,hvi',hwi',by lia,hR⟩
     |false =>
      rw[if_neg (λq=>absurd (hiff.mpr q) AI)]at hR;have hri:=zhJ A.in1 ⟨hp,g,d,tk,os⟩ a t c u prog w
      wp_walk using hri
      exact⟨_,rfl,by simpa using hR⟩
  case fin =>
   rintro⟨b1,b2⟩ s' ⟨hb',rfl,vs,ws,ns',ms',hz,hvi,hwi,hlen,hR⟩;simp only at hb';subst hb'
   have hv:lexLe ns' ms'=decide (items.size<=items2.size):=by
    cases hvi with
    |nil =>
     cases hwi with
     |nil =>
      simp only[Bv]at hlen;rw[zef];exact (decide_eq_true (by lia)).symm
     |cons c u hw =>
      simp only[Bv,AD]at hlen;rw[zdA];exact (decide_eq_true (by lia)).symm
    |cons a t hv =>
     cases hwi with
     |nil =>
      simp only[Bv,AD]at hlen;rw[zdB];exact (decide_eq_false (by lia)).symm
     |cons c u hw =>
      rw[List.zip_cons_cons]at hz
      cases hz
   rw[hv]at hR
   wp_walk
   exact⟨_,rfl,by simpa[Builtin.Tuple.tupleCompareSizes]using hR⟩
  case h =>
   exact⟨rfl,rfl,items.toList,items2.toList,ns,ms,rfl,hi,hj,by lia,h⟩
end
section
variable {prog:Am}{w:AB}{A:Aw}{E:Value->Ab->Prop}{s:Ab}
theorem le_tupInts{l b:Addr}{items items2:Array Value}{ns ms:List Int}{Q:Value -> Ab -> Prop}(hl:IsTup s.heap l items)(hb:IsTup s.heap b items2)(hi:C1 items.toList ns)(hj:C1 items2.toList ms)
  (hu:A.units<cLine) (h:Q (.bool (lexLe ns ms)) s):Aq (Ap prog w) A (Bp .LtE (.ref l) (.ref b)) Q E s:=by
 obtain⟨⟨cls,dd,data,sl⟩,ho,hc,n,hd⟩:=id hl;obtain⟨⟨cls2,dd2,data2,sl2⟩,ho2,hc2,n2,hd2⟩:=id hb;simp only at hc hd hc2 hd2;subst hc hd hc2 hd2
 exact richCompare_meets_room (op:=.LtE) ⟨_,ho,rfl⟩ ⟨_,ho2,rfl⟩ PySem.F.slot_tuple_le PySem.F.entry_tuple_le (PySem.F.args_tuple_le_2 _ _) (zdW l b items items2 n n2 dd dd2 sl sl2 ns ms hi hj)
  ⟨ho,ho2,show Value.bool (lexLe ns ms)≠Value.notImplemented/\Q (.bool (lexLe ns ms)) s from ⟨(λx=>nomatch x),h⟩⟩ hu
end
end HT
namespace L2
open PySem PySem.Spec PyProof.Rows
section
variable {X:Cx}
noncomputable def rLeT(K:W.Frag):R2:=λx y H Q=>∃a b ns ms,x=.ref a/\y=.ref b/\SqT K H a (ns.map V.int)/\SqT K H b (ms.map V.int)/\Q (.bl (HT.lexLe ns ms)) H
theorem zjR(hu:X.A.units<cLine):OpR X (Bp .LtE) (rLeT X.K):=by
 intro pins s σ H x y v u Q I rx ry h;obtain⟨a,b,ns,ms,rfl,rfl,ha,hb,q⟩:=h
 cases rx
 cases ry
 obtain⟨its,r1,p1,_⟩:=I.tuple ha;obtain⟨its2,r2,p2,_⟩:=I.tuple hb;have i1:C1 its.toArray.toList ns:=zdT r1;have i2:C1 its2.toArray.toList ms:=zdT r2;exact HT.le_tupInts p1 p2 i1 i2 hu ⟨.bl (HT.lexLe ns ms),H,I,rfl,q⟩
end
section
variable {X:Cx}
end
section
variable {X:Cx}{k:Nat}{f:Addr}{fd:A5}{ps:List Str}{sp:Sp}{pins:List (Addr×Obj)}{σ:St}
structure MK (X:Cx) (pins:List (Addr×Obj)) (σ:St) (H:Hp) (s:Ab) (it st l:Addr) (j:Nat) (vb kb:Value):Prop where
 inv:Inv X pins σ H s
 fi:FpOk X pins H it
 fs:FpOk X pins H st
 ne:st≠it
 iter:s.heap.IsListIter it l j
 hold:∃c,s.heap.get? st=some (seqObj "list" #[vb,kb] c)
end
end L2
namespace HT
theorem lexLt_trans:∀{a b c:List Int},lexLt a b=true->lexLt b c=true->lexLt a c=true
 |[],[],_,h,_=>by cases h
 |[],_::_,[],_,h=>by cases h
 |[],_::_,_::_,_,_=>rfl
 |_::_,[],_,h,_=>by cases h
 |_::_,_::_,[],_,h=>by cases h
 |x::a,y::b,z::c,h,g=>by
  rw[lexLt_cons]at h g ⊢
  by_cases e1:x=y
  .subst e1;rw[if_pos rfl]at h
   by_cases e2:x=z
   .subst e2;rw[if_pos rfl]at g ⊢;exact lexLt_trans h g
   .rw[if_neg e2]at g ⊢;exact g
  .rw[if_neg e1]at h;have h':x<y:=by simpa using h
   by_cases e2:y=z
   .subst e2;rw[if_neg e1];exact h
   .rw[if_neg e2]at g;have g':y<z:=by simpa using g
    rw[if_neg (by lia)];exact decide_eq_true (by lia)
theorem lexLe_eq:∀a b:List Int,lexLe a b=!lexLt b a
 |[],[]=>rfl
 |[],_::_=>rfl
 |_::_,[]=>rfl
 |x::a,y::b=>by
  rw[zdP,lexLt_cons]
  by_cases e:x=y
  .subst e;rw[if_pos rfl,if_pos rfl];exact lexLe_eq a b
  .rw[if_neg e,if_neg (BJ e)]
   by_cases g:x<=y
   .rw[decide_eq_true g,decide_eq_false (by lia)];rfl
   .rw[decide_eq_false g,decide_eq_true (by lia)];rfl
end HT
namespace L2
open PySem PySem.Spec PyProof.Rows
section
variable {X:Cx}{k:Nat}{f:Addr}{fd:A5}{ps:List Str}{sp:Sp}{pins:List (Addr×Obj)}{σ:St}{H0:Hp}{Q:VK}{l it st:Addr}{xs:List V}{κ:Nat->List Int}
theorem Same.seqT{K:W.Frag}{H H':Hp}{a:Addr}{xs:List V}(e:Same H H')(h:SqT K H a xs):SqT K H' a xs:=by
 rcases h with (h |⟨o,h⟩) |h
 .exact .inl (.inl (e _ _ h))
 .exact .inl (.inr ⟨o,e _ _ h⟩)
 .exact .inr h
end
section
variable {X:Cx}{k:Nat}{f:Addr}{fd:A5}{ps:List Str}{sp:Sp}{pins:List (Addr×Obj)}{σ:St}{H0:Hp}{Q:VK}{l it st:Addr}{xs:List V}{κ:Nat->List Int}
structure MK0 (X:Cx) (pins:List (Addr×Obj)) (σ:St) (H:Hp) (s:Ab) (it st l:Addr) (j:Nat):Prop where
 inv:Inv X pins σ H s
 fi:FpOk X pins H it
 fs:FpOk X pins H st
 ne:st≠it
 iter:s.heap.IsListIter it l j
 hold:∃c,s.heap.get? st=some (seqObj "list" #[] c)
end
end L2
namespace RK
open PySem PySem.W PyProof.Rows
variable {n:Nat}{ans:Nat->Nat->Bool}
inductive Col:Value->Value->Int->Int->Prop where
 |int (a:Int) (t:Tok) (b:Int) (u:Tok):Col (.int a t) (.int b u) a b
 |bl (p q:Bool):Col (.bool p) (.bool q) (b2i p) (b2i q)
inductive Cols:List Value->List Value->List Int->List Int->Prop where
 |nil:Cols [] [] [] []
 |cons {u v:Value} {us vs:List Value} {a b:Int} {as bs:List Int}:Col u v a b->Cols us vs as bs->Cols (u::us) (v::vs) (a::as) (b::bs)
section
variable {prog:Am}{w:AB}{A:Aw}{s:Ab}{Q:Bool->Ab->Prop}
end
end RK
namespace L2
open PySem PySem.Spec PyProof.Rows
section
variable {X:Cx}{k:Nat}{f:Addr}{fd:A5}{ps:List Str}{sp:Sp}{pins:List (Addr×Obj)}{σ:St}{H0:Hp}{Q:VK}
inductive VCol:V->V->Int->Int->Prop where
 |int (a b:Int):VCol (.int a) (.int b) a b
 |bl (p q:Bool):VCol (.bl p) (.bl q) (b2i p) (b2i q)
inductive VCols:List V->List V->List Int->List Int->Prop where
 |nil:VCols [] [] [] []
 |cons {x y:V} {xs ys:List V} {a b:Int} {as bs:List Int}:VCol x y a b->VCols xs ys as bs->VCols (x::xs) (y::ys) (a::as) (b::bs)
structure SK (X:Cx) (pins:List (Addr×Obj)) (σ:St) (H:Hp) (s:Ab) (D st:Addr) (e:Nat) (κV:Nat->List V) (ks:List Addr):Prop where
 inv:Inv X pins σ H s
 fd:FpOk X pins H D
 fs:FpOk X pins H st
 ne:st≠D
 hd:s.heap.get? D=some (seqObj "list" #[] e)
 hs:∃c,s.heap.get? st=some (seqObj "list" (ks.map AM).toArray c)
 hk:∀i a,ks[i]?=some a->SqT X.K H a (κV i)
end
section
variable {X:Cx}{pins:List (Addr×Obj)}{σ:St}{H:Hp}{s:Ab}{D st:Addr}{e:Nat}{κV:Nat->List V}{ks:List Addr}{E:Value->Ab->Prop}
end
section
variable {X:Cx}{k:Nat}{f:Addr}{fd:A5}{ps:List Str}{sp:Sp}{pins:List (Addr×Obj)}{σ:St}{H0 H:Hp}{s:Ab}{D st l:Addr}{e:Nat}{κV:Nat->List V}{ks:List Addr}{E:Value->Ab->Prop}{G:Array Nat->Prop}{xs:List V}{vs:List Value}{Q:VK}
end
section
variable {X:Cx}{k:Nat}{f:Addr}{fd:A5}{ps:List Str}{sp:Sp}{pins:List (Addr×Obj)}{σ:St}{H0:Hp}{s:Ab}{l:Addr}{κV:Nat->List V}{G:Array Nat->Prop}{xs:List V}{Q:VK}
end
section
variable {X:Cx}{x:Str}{p pos kp kpos:Pos}{e:Expr}{te:TE}{k:Nat}{f:Addr}{fd:A5}{ps:List Str}{sp:Sp}{fn:Str}
end
end L2
namespace TS
open PySem PyProof.Rows
structure LtOk (M:Db) (A:Aw) (E:Value->Ab->Prop) (s:Ab) (kd:Cg) (S:Keyed->Prop) (L:Keyed->Keyed->Bool):Prop where
 lt:∀x y,S x->S y->∀(st:SortSt) (Q:Option Bool->SortSt->Prop),kindOf st=kd->Q (some (L x y)) st->wpS M A E s (lt' x y) Q st
 tr:∀x y z,S x->S y->S z->L y x=false->L z y=false->L z x=false
 as:∀x y,S x->S y->L x y=true->L y x=false
section
variable {M:Db}{A:Aw}{E:Value->Ab->Prop}{s:Ab}{kd:Cg}{S:Keyed->Prop}{L:Keyed->Keyed->Bool}
end
end TS
namespace TS
section
variable {α:Type}{le:α->α->Prop}
structure MI (le:α->α->Prop) (a b out:List α) (ia ib:Nat):Prop where
 ha:ia<=a.length
 hb:ib<=b.length
 perm:(out++a.drop ia++b.drop ib).Perm (a++b)
 sorted:out.Pairwise le
 lea:∀x∈out,∀y∈a.drop ia,le x y
 leb:∀x∈out,∀y∈b.drop ib,le x y
end
end TS
namespace TS
open PySem PyProof.Rows
noncomputable abbrev leOf(L:Keyed->Keyed->Bool):Keyed->Keyed->Prop:=λx y=>L y x=false
section
variable {M:Db}{A:Aw}{E:Value->Ab->Prop}{s:Ab}{kd:Cg}{S:Keyed->Prop}{L:Keyed->Keyed->Bool}
structure Two (S:Keyed->Prop) (L:Keyed->Keyed->Bool) (a b:Array Keyed):Prop where
 sa:a.toList.Pairwise (leOf L)
 sb:b.toList.Pairwise (leOf L)
 Sa:∀x∈a.toList,S x
 Sb:∀x∈b.toList,S x
variable {a b:Array Keyed}{out:Array Keyed}{ia ib:Nat}
end
end TS
set_option maxHeartbeats 8000000
namespace TS
open PySem PyProof.Rows
section
variable {M:Db}{A:Aw}{E:Value->Ab->Prop}{s:Ab}{kd:Cg}{S:Keyed->Prop}{L:Keyed->Keyed->Bool}{a b out:Array Keyed}{ia ib:Nat}
noncomputable abbrev LH:=Option (Array Keyed)×Array Keyed×Nat×Nat×Nat×Nat×Nat
variable {Q:ForInStep LH->SortSt->Prop}{z:SortSt}{N mg ac bc:Nat}{x y:Keyed}
end
section
variable {M:Db}{A:Aw}{E:Value->Ab->Prop}{s:Ab}{kd:Cg}{S:Keyed->Prop}{L:Keyed->Keyed->Bool}{a b:Array Keyed}
end
end TS
set_option maxHeartbeats 8000000
namespace TS
open PySem PyProof.Rows
section
variable {α:Type}{le:α->α->Prop}
structure MJ (le:α->α->Prop) (a b r:List α) (na nb:Nat):Prop where
 ha:na<=a.length
 hb:nb<=b.length
 perm:(a.take na++b.take nb++r).Perm (a++b)
 sorted:r.Pairwise le
 lea:∀x∈a.take na,∀y∈r,le x y
 leb:∀x∈b.take nb,∀y∈r,le x y
end
end TS
set_option maxHeartbeats 8000000
namespace TS
open PySem PyProof.Rows
section
variable {M:Db}{A:Aw}{E:Value->Ab->Prop}{s:Ab}{kd:Cg}{S:Keyed->Prop}{L:Keyed->Keyed->Bool}{a b out:Array Keyed}{na nb:Nat}
end
end TS
set_option maxHeartbeats 8000000
namespace TS
open PySem PyProof.Rows
section
variable {M:Db}{A:Aw}{E:Value->Ab->Prop}{s:Ab}{kd:Cg}{S:Keyed->Prop}{L:Keyed->Keyed->Bool}{a b out:Array Keyed}{na nb:Nat}
end
end TS
set_option maxHeartbeats 8000000
namespace TS
open PySem PyProof.Rows
section
variable {M:Db}{A:Aw}{E:Value->Ab->Prop}{s:Ab}{kd:Cg}{S:Keyed->Prop}{L:Keyed->Keyed->Bool}{a b out:Array Keyed}{na nb:Nat}
noncomputable abbrev RH:=Option (Array Keyed)×Nat×Nat×Array Keyed×Nat×Nat×Nat
variable {Q:ForInStep RH->SortSt->Prop}{z:SortSt}{N mg ac bc:Nat}{x y:Keyed}
end
section
variable {M:Db}{A:Aw}{E:Value->Ab->Prop}{s:Ab}{kd:Cg}{S:Keyed->Prop}{L:Keyed->Keyed->Bool}{a b:Array Keyed}
end
end TS
namespace TS
open PySem PyProof.Rows
section
variable {M:Db}{A:Aw}{E:Value->Ab->Prop}{s:Ab}{kd:Cg}{S:Keyed->Prop}{L:Keyed->Keyed->Bool}
noncomputable def Seg(L:Keyed->Keyed->Bool)(a:Array Keyed)(lo n:Nat):Prop:=∀(i j:Nat) x y,i<=j->j<n->a[lo+i]?=some x->a[lo+j]?=some y->L y x=false
structure SB (kd:Cg) (S:Keyed->Prop) (st0 st:SortSt) (lo hi:Nat):Prop where
 kind:kindOf st=kd
 pend:pendingOf st=pendingOf st0
 fail:failedOf st=failedOf st0
 perm:(arrOf st).Perm (arrOf st0)
 out:∀k:Nat,k<lo∨hi<=k->(arrOf st)[k]?=(arrOf st0)[k]?
 all:∀(k:Nat) x,(arrOf st)[k]?=some x->S x
end
end TS
namespace TS
open PySem PyProof.Rows
section
variable {M:Db}{A:Aw}{E:Value->Ab->Prop}{s:Ab}{kd:Cg}{S:Keyed->Prop}{L:Keyed->Keyed->Bool}
end
end TS
set_option maxHeartbeats 8000000
namespace TS
open PySem PyProof.Rows
noncomputable def wr(a:Array Keyed)(o:Nat)(l:List Keyed)(k:Nat):Array Keyed:=(l.zipIdx k).foldl (λa (p:Keyed×Nat)=>a.setIfInBounds (o+p.2) p.1) a
section
variable {M:Db}{A:Aw}{E:Value->Ab->Prop}{s:Ab}{kd:Cg}{S:Keyed->Prop}{L:Keyed->Keyed->Bool}
structure SM (kd:Cg) (S:Keyed->Prop) (L:Keyed->Keyed->Bool) (st0 st:SortSt) (pd:Array (Nat×Nat×Nat)) (lo n:Nat):Prop where
 kind:kindOf st=kd
 pend:pendingOf st=pd
 fail:failedOf st=none
 perm:(arrOf st).Perm (arrOf st0)
 out:∀k:Nat,k<lo∨lo+n<=k->(arrOf st)[k]?=(arrOf st0)[k]?
 all:∀(k:Nat) x,(arrOf st)[k]?=some x->S x
 seg:Seg L (arrOf st) lo n
end
end TS
set_option maxHeartbeats 8000000
namespace TS
open PySem PyProof.Rows
noncomputable abbrev Run:=Nat×Nat×Nat
section
variable {M:Db}{A:Aw}{E:Value->Ab->Prop}{s:Ab}{kd:Cg}{S:Keyed->Prop}{L:Keyed->Keyed->Bool}
noncomputable def Runs(L:Keyed->Keyed->Bool)(a:Array Keyed):List Run->Nat->Nat->Prop
 |[],x,y=>x=y
 |r::l,x,y=>r.1=x/\1<=r.2.1/\Seg L a r.1 r.2.1/\Runs L a l (x+r.2.1) y
structure PD (kd:Cg) (S:Keyed->Prop) (L:Keyed->Keyed->Bool) (a0:Array Keyed) (st:SortSt) (lo:Nat):Prop where
 kind:kindOf st=kd
 fail:failedOf st=none
 perm:(arrOf st).Perm a0
 all:∀(k:Nat) x,(arrOf st)[k]?=some x->S x
 runs:Runs L (arrOf st) (pendingOf st).toList 0 lo
end
end TS
namespace L2
open PySem PySem.Spec PyProof.Rows
section
variable {X:Cx}{pins:List (Addr×Obj)}{σ:St}{H:Hp}{s:Ab}{D st:Addr}{e:Nat}{κV:Nat->List V}{ks:List Addr}{E:Value->Ab->Prop}
end
section
variable {X:Cx}{x:Str}{p pos kp kpos:Pos}{e:Expr}{te:TE}{k:Nat}{f:Addr}{fd:A5}{ps:List Str}{sp:Sp}{fn:Str}
end
section
variable {prog:Am}{w:AB}{A:Aw}{R:Result->Ab->Prop}{s:Ab}
end
section
variable {X:Cx}{osc:Scope}{N:List Str}{sc:Scope}{N':List Str}{sel:List (Option Nat)}{pos:Pos}{elt kx vx tg iter tg2 iter2:Expr}{ifs ifs2:List Expr}{wi wi2:TI}{g g2:TG}{tt tt2:TT}{te tk tv:TE}
end
end L2
namespace RP
noncomputable def mv(i:Nat):Int×Int:=([(1,0),(1,1),(0,1),(-1,1),(-1,0),(-1,-1),(0,-1),(1,-1)]:List (Int×Int)).getD i (0,0)
noncomputable abbrev Cell:=Int×Int
noncomputable def go(c:Cell)(i:Nat):Cell:=(c.1+(mv i).1,c.2+(mv i).2)
structure Edge where
 c:Cell
 w:Nat
 deriving DecidableEq
noncomputable def gap(e:Edge):Cell:=go e.c ((2*e.w+6) % 8)
noncomputable def stepB(C:Cell->Bool)(e:Edge):Option Nat :=
 if C (go e.c ((2*e.w+7) % 8))=true then some ((2*e.w+7) % 8) else if C (go e.c (2*e.w))=true then some (2*e.w) else none
noncomputable def slant:Option Nat->Bool
 |none=>false
 |some s=>s % 2 == 1
noncomputable def edgeB(e:Edge):Option Nat->Edge
 |none=>⟨e.c,(e.w+1) % 4⟩
 |some s=>if s % 2=1 then ⟨go e.c s,(e.w+3) % 4⟩ else ⟨go e.c s,e.w⟩
noncomputable def nxt(C:Cell->Bool)(e:Edge):Edge:=edgeB e (stepB C e)
noncomputable def IsE(C:Cell->Bool)(e:Edge):Prop:=e.w<4/\C e.c=true/\C (gap e)=false
noncomputable def Chain(C:Cell->Bool)(b:Edge)(es:List Edge):Prop:=es[0]?=some b/\(∀i e f,es[i]?=some e->es[i+1]?=some f->f=nxt C e)/\(∀e∈es,IsE C e)/\es.Nodup
noncomputable def isIn(cs:List Cell)(c:Cell):Bool:=decide (c∈cs)
noncomputable def dx(w:Nat):Int:=if w=0 then 1 else if w=2 then -1 else 0
noncomputable def dy(w:Nat):Int:=if w=1 then 1 else if w=3 then -1 else 0
noncomputable def px(e:Edge):Int:=e.c.1+(if e.w=1∨e.w=2 then 1 else 0)
noncomputable def ziH(C:Cell->Bool)(b:Edge)(es:List Edge):Prop:=Chain C b es/\∃l,es[es.length-1]?=some l/\nxt C l=b
end RP
namespace L2
open PySem PySem.Spec PyProof.Rows
structure Fn (P:Am) (w:AB) (K:W.Frag) (mg:Str->Option Value) (base:Heap) (k:Nat) (x:Str) (ps:List Str) (sp:Sp) where
 f:Addr
 fd:A5
 ok:FnOk P w K mg base CX0 k f fd ps sp
 m:mg x=some (.ref f)
 kp:Cv K (.ref f)=true
 b:Binds K fd ps []
structure Df (K:W.Frag) (mg:Str->Option Value) (x:Str) (st:Stmt) (ps:List Str) where
 f:Addr
 fd:A5
 F:Fun K x x st f fd
 m:mg x=some (.ref f)
 b:Binds K fd ps []
noncomputable def Df.fn{P:Am}{w:AB}{K:W.Frag}{mg:Str->Option Value}{base:Heap}{k:Nat}{x:Str}{st:Stmt}{ps:List Str}{sp:Sp}(d:Df K mg x st ps)(h:FnOk P w K mg base CX0 k d.f d.fd ps sp):Fn P w K mg base k x ps sp :=
 ⟨d.f,d.fd,h,d.m,d.F.kp,d.b⟩
structure Ways (P:Am) (w:AB) (K:W.Frag) (mg:Str->Option Value):Prop where
 ex:∃(B:Addr) (t1 t2 t3 t4:Tok) (n:Nat),mg "BEGIN_WAYS" = some (.ref B)/\K.lookup B=some ⟨.type "dict",none,.dict #[⟨Bi w.params "rim",.str "rim" t1,.int 0 t2⟩,⟨Bi w.params "hole",.str "hole" t3,.int 2 t4⟩] n,#[]⟩
section
variable {X:Cx}{K:W.Frag}
theorem zhZ(hK:X.K=K:=by rfl):IxR X (rIxL K):=by subst hK;exact zao
theorem zfj{es:List Expr}{k:Nat}{t:TGs}{n:Nat}{pos:Pos}(hc:X.calm=true)(h:PGs X es t)
  (hn:(B2 es X.env).length=n:=by rfl) (hst:(B2 es X.env).findIdx? (·.1)=none:=by rfl) (hK:X.K=K:=by rfl):PG X (.Tuple es k pos) (gTup K n t):=by
 subst hK;exact zfK hc h hn hst
end
section
variable {X:Cx}
end
end L2
namespace HT
open PySem PyProof.Rows
variable {prog:Am}{w:AB}{A:Aw}{E:Value->Ab->Prop}{s:Ab}
end HT
namespace L2
open PySem PySem.Spec PyProof.Rows
section
variable {X:Cx}{K:W.Frag}
end
section
variable {prog:Am}{w:AB}{K:Type} [DecidableEq K] {knd:HeapKind prog w K}{A:Aw}{E:Value->Ab->Prop}{s:Ab}{d a:Addr}{xs:List (K×Addr×Value)}{k:K}{dflt:Value}
end
section
variable {X:Cx}{o e f:Expr}{apos cpos:Pos}{td ty tx:TE}
end
structure Two (P:Am) (w:AB) (K:W.Frag) (mg:Str->Option Value) (nm:Str) (a b:Int):Prop where
 ex:∃(B:Addr) (t1 t2 t3 t4:Tok) (n:Nat),mg nm=some (.ref B)/\K.lookup B=some ⟨.type "dict",none,.dict #[⟨Bi w.params "rim",.str "rim" t1,.int a t2⟩,⟨Bi w.params "hole",.str "hole" t3,.int b t4⟩] n,#[]⟩
section
variable {X:Cx}
theorem Inv.turned2{pins:List (Addr × Obj)}{σ : St}{H:Hp}{s:Ab}{h':Heap}{t':Nat}{e it:Addr}(I:Inv X pins σ H s)(k:∀b o, b ≠ e -> b ≠ it -> s.heap.get? b=some o -> h'.get? b=some o)(fe:FpOk X pins H e)(fi:FpOk X pins H it) :
  Inv X pins σ H { s with heap:=h',toks:=t' }:=by
 obtain⟨f0,f1,f2,f3,f4,f5⟩:=fe;obtain⟨g0,g1,g2,g3,g4,g5⟩:=fi;have nb:∀b u,H b=some u->b≠e/\b≠it:=λb u q=>⟨(λz=>by rw[z,f0]at q;cases q),(λz=>by rw[z,g0]at q;cases q)⟩
 have out:∀b,b ∉ [e,it]->b≠e/\b≠it:=λb hc=>⟨λz=>hc (by simp[z]),λz=>hc (by simp[z])⟩
 refine I.step (g':=s.gens) (d':=s.drawn) (ch:=[e,it]) (λb hb=>?_) (λb o _ _ hc q _=>k b o (out b hc).1 (out b hc).2 q) (λb o _ _ hc q _=>⟨o.slots,k b o (out b hc).1 (out b hc).2 q⟩) (λ_ _ _ _ n=>n)
  (λb o hc q=>⟨o,k b o (out b hc).1 (out b hc).2 q⟩) (λ_ _ q=>q) (λ_ _ _ q=>q) (λb ps q=>⟨#[],by rw[q];simp⟩) (λm hm=>?_) (λb u q=>?_) I.bare
 .rcases Ax.mp hb with z |z
  .subst z;exact⟨f3,f1,f4,f5⟩
  .have z':b=it:=by simpa using z
   subst z';exact⟨g3,g1,g4,g5⟩
 .obtain⟨o,es,ep,ho,r⟩:=hm;exact⟨o,es,ep,k _ o (BJ f1) (BJ g1) ho,r⟩
 .refine (I.hok b u q).stay (λc v hc q'=>?_) (λ_ q=>q) λ_ _ q=>q
  rcases hc with z |z
  .rw[z]at q' ⊢;exact k _ _ (nb b u q).1 (nb b u q).2 q'
  .exact k _ _ (nb c _ z).1 (nb c _ z).2 q'
noncomputable def Ite(K:W.Frag)(a:Addr):It :=
 ⟨λi H=>∃xs x,SqL K H a xs/\xs[i]?=some x,λi H y H'=>∃p x,y=.ref p/\H p=none/\H'=upd H p (.tup [.int i,x])/\∀xs,SqL K H a xs->xs[i]?=some x,λi H=>∃xs,SqL K H a xs/\xs.length<=i⟩
theorem zgr{P:Am}{w:AB}{K:W.Frag}{es:List Expr}{x1:Nat}{pos:Pos}(a e it:Addr)(hne:e≠it):Turn P w K (.Tuple es x1 pos) (Ite K a) [e,it] e (λi h=>∃old,IsEnum h e it ((i:Nat):Int) old/\h.IsListIter it a i) where
 mem:=by simp
 obj:=λi h st b hb=>by
  obtain⟨old,h1,o,h2,c,d⟩:=st;rcases Ax.mp hb with z |z
  .subst z;exact⟨_,h1,λv q=>nomatch q⟩
  .have z':b=it:=by simpa using z
   subst z';exact⟨o,h2,λv q=>by rw[d]at q;cases q⟩
 keep:=λi h h' ⟨old,h1,h2⟩ k=>⟨old,k e (by simp) _ h1,h2.at λo q=>k it (by simp) o q⟩
 item:=by
  intro X hP hw hK hc i pins s σ H E I hf st hg;subst hP hw hK;obtain⟨old,he,hit⟩:=st;obtain⟨xs,x,hq,hx⟩:=hg;obtain⟨its,rv,p,hz⟩:=I.list hq;obtain⟨u,hu,ru⟩:=rv.get hx;have fe:=hf e (by simp);have fi:=hf it (by simp);refine wpAny_pyNext_enum_item he hit p.isList (x:=u) (by simpa using hu) hne λh1 eo it1 tup sz kk=>⟨_,rfl,?_⟩
  refine wpAny_letOwnedTupleGo_enum (s:={ s with heap:=h1,toks:=s.toks+1 }) eo λh2 he2 sb=>?_
  have heS:e<s.heap.objs.size:=Ao he;have hiS:it<s.heap.objs.size:=by obtain⟨o,q,_⟩:=hit;exact Ao q
  have fr:H s.heap.objs.size=none:=I.hok.fresh (Ai _)
  have I1:Inv X pins σ (upd H s.heap.objs.size (.tup [.int i,x])) { s with heap:=s.heap.push { cls:=.type "tuple",data:=.seq #[.int i s.toks,u] },toks:=s.toks } :=
   I.laid (t':=s.toks) (o:=.tup [.int i,x]) (λb ob q=>Ag _ q) (Ai _) ⟨by show 2<=sizeLine;decide,_,.cons ⟨_,rfl⟩ (.cons ru .nil),IsTup.new _ _⟩
  have up:∀{b:Addr},b<s.heap.objs.size->∀o,upd H s.heap.objs.size o b=H b:=λhb o=>zam (AS hb)
  have fe1:FpOk X pins (upd H s.heap.objs.size (.tup [.int i,x])) e:=⟨by rw[up heS];exact fe.1,fe.2⟩;have fi1:FpOk X pins (upd H s.heap.objs.size (.tup [.int i,x])) it:=⟨by rw[up hiS];exact fi.1,fi.2⟩
  have I2:Inv X pins σ (upd H s.heap.objs.size (.tup [.int i,x])) { s with heap:=h2,toks:=s.toks+1 }:=I1.turned2 (λb o hbe hbi q=>by
   refine (sb.2 b hbe).trans ?_
   show h1.get? b=some o;rcases Heap.get?_push_cases q with⟨z,rfl⟩ |q
   .rw[z];exact tup
   .exact kk b o hbe hbi q) fe1 fi1
  refine⟨.ref s.heap.objs.size,_,I2,rfl,⟨_,x,rfl,fr,rfl,λys hy=>by rw[I.list_inj hy hq];exact hx⟩,⟨u,?_,?_⟩,λb hb=>?_⟩
  .exact he2
  .obtain⟨o,q,c,d⟩:=it1;exact⟨o,(sb.2 it (BJ hne)).trans q,c,d⟩
  .rcases Ax.mp hb with z |z
   .subst z;exact fe1.1
   .have z':b=it:=by simpa using z
    subst z';exact fi1.1
 done:=by intro X hP hw hK hc i pins s σ H E I hf st hg;subst hP hw hK;obtain⟨old,he,hit⟩:=st;obtain⟨xs,hq,hx⟩:=hg;obtain⟨its,rv,p,hz⟩:=I.list hq;obtain⟨f0,f1,f2,f3,f4,f5⟩:=hf it (by simp);have hl:=rv.length;exact wpAny_pyNext_enum_end (I.ok.hd hc) he hit p.isList (by simp;lia) λh' eb=>⟨rfl,I.turned (t':=s.toks) (λb o hb e=>eb b o hb e) f0 f1 f3 f4 f5⟩
 self:=λ_ _ _ _ _ ⟨_,he,_⟩ h=>wpAny_pyIter_enum he h
noncomputable def iEnum(K:W.Frag)(t:TA):TI:=λσ H R=>t σ H λvs H1=>∃a,vs=[.ref a]/\(∃xs,SqL K H1 a xs)/\R (Ite K a) H1
theorem zi0 {l:Expr}{t:TA}{es:List Expr}{x1:Nat}{pos pos' p:Pos}(hg:Gl X "enumerate") (hm:X.mg "enumerate" = none) (ha:PA X [l] t)
  (he:AA [l] X.env=(false,eval l X.env)::AA [] X.env:=by rfl) (hpl:(CB pos' (AA [] X.env)).any (·.1)=false:=by rfl) :
  PI X (.Tuple es x1 pos) (.Call (.Name "enumerate" p) [l] [] pos') (iEnum X.K t):=by
 intro pins s σ H R I h;refine BF (zbW I hg hm (by rfl) ?_ (by decide) (by decide));refine AV (thn (ha pos' pins s σ H _ I h) λus s1 ⟨vs,H1,I1,r1,q1⟩=>?_) he hpl;obtain⟨a,ex,⟨xs,hq⟩,q⟩:=q1;subst ex;obtain⟨u,rfl,rx⟩:=vals1 r1
 cases rx
 obtain⟨its,rv,pl,hz⟩:=I1.list hq;refine call_enumerate_list pl.isList λh' he hit hsz kp=>?_
 have I2:Inv X pins σ H1 { s1 with heap:=h' }:=I1.kept (t':=s1.toks) kp;refine wpAny_pyIter_enum he ?_
 refine⟨s1.heap.objs.size+1,[s1.heap.objs.size+1,s1.heap.objs.size],_,_,H1,rfl,I2,zgr a _ _ (Nat.succ_ne_self _),⟨_,he,hit⟩,λb hb=>?_,q⟩;rcases Ax.mp hb with z |z
 .subst z;exact I1.fpOk (Nat.le_succ _) (I1.hok.fresh (Nat.le_succ _))
 .have z':b=s1.heap.objs.size:=by simpa using z
  subst z';exact I1.fpOk (Ai _) (I1.hok.fresh (Ai _))
theorem zh2{K:W.Frag}{a:Addr}{xs:List V}{g:TG}{tb:TS}{D:Ends}{σ : St}{H:Hp}(Pv:Nat -> St -> Hp -> Prop)(h0:Pv 0 σ H)(hl:∀i σ H, i <= xs.length -> Pv i σ H -> SqL K H a xs)
  (hs:∀i x σ H p,xs[i]?=some x->Pv i σ H->H p=none->g (.ref p) σ (upd H p (.tup [.int i,x])) λσ2 H2=>tb { D with nx:=Pv (i+1),ct:=Pv (i+1),bk:=D.nx } σ2 H2) (hd:∀ σ H,Pv xs.length σ H->D.nx σ H) :
  ∃W:Nat->Nat->St->Hp->Prop,(∃m,W 0 m σ H)/\∀i m σ H,W i m σ H ->
   ((Ite K a).stop i H/\D.nx σ H)∨((Ite K a).go i H/\∃N:St->Hp->Prop,(∀ σ' H',N σ' H'->∃m',m'<m/\W (i+1) m' σ' H')/\∀x H',(Ite K a).yld i H x H'->g x σ H' λσ2 H2=>tb { D with nx:=N,ct:=N,bk:=D.nx } σ2 H2):=by
 refine⟨λi m σ H=>m=xs.length-i/\i<=xs.length/\Pv i σ H,⟨xs.length,by simp,A1 _,h0⟩,?_⟩;rintro i m σ H ⟨rfl,hi,p⟩;have q:=hl i σ H hi p
 by_cases hlt:i<xs.length
 .refine .inr ⟨⟨xs,xs[i],q,by simp[hlt]⟩,Pv (i+1),λσ' H' p'=>⟨xs.length-(i+1),by lia,rfl,hlt,p'⟩,λx H' y=>?_⟩;obtain⟨b,z,rfl,hb,rfl,y⟩:=y;exact hs i z σ H b (y xs q) p hb
 .have e:i=xs.length:=by lia
  subst e;exact .inl ⟨⟨xs,q,Ai _⟩,hd σ H p⟩
end
end L2
namespace HT
open PySem PyProof.Rows PySem.Spec
variable {prog:Am}{w:AB}{A:Aw}{E:Value->Ab->Prop}{s:Ab}
end HT
namespace L2
open PySem PySem.Spec PyProof.Rows
section
variable {X:Cx}{K:W.Frag}
end
end L2
namespace HT
open PySem PyProof.Rows PySem.Spec
end HT
namespace L2
open PySem PySem.Spec PyProof.Rows
section
variable {X:Cx}{K:W.Frag}
end
section
variable {X:Cx}
end
section
variable {X:Cx}{e es:Expr}{te ts:TE}{pos p2:Pos}
end
section
variable {X:Cx}
noncomputable def ziU(K:W.Frag):R2:=λx y H Q=>∃p xs d ds,y=.ref p/\SqL K H p xs/\RD K H x d/\RDs K H xs ds/\A0 d=true/\(∀e∈ds,A0 e=true)/\Q (.bl (!ds.any λe=>B4 e d)) H
theorem zeL(hu:X.A.units+65<cLine):OpR X (Bp .NotIn) (ziU X.K):=by intro pins s σ H x y v u Q I rx ry h;obtain⟨p,xs,d,ds,rfl,hq,hd,hds,sd,sds,q⟩:=h;obtain⟨as,ra⟩:=I.reads hd rx;obtain⟨bs,rb⟩:=I.reads (.lst hq hds) ry;exact SeqAt.notIn_list_reads rb ra (ze2 sds) (SeqAt.canLay_of_shaped sd) (PyProof.Rows.room_in_shaped sd hu) ⟨.bl _,H,I,rfl,q⟩
end
section
variable {prog:Am}{w:AB}{A:Aw}{R:Result->Ab->Prop}{I:Addr}{fp wr:List Addr}{n:Nat}{P:Nat->Value->Prop}{St:Nat->Heap->Prop}{dv:Value}
end
section
variable {X:Cx}{pins:List (Addr×Obj)}{σ:St}{H0:Hp}{s:Ab}{l:Addr}{Q:VK}
end
section
variable {X:Cx}{p pos kpos kp:Pos}{e:Expr}{te:TE}{d:Int}{kj:Nat}
end
end L2
namespace HT
open PySem PyProof.Rows
variable {prog:Am}{w:AB}{A:Aw}{E:Value->Ab->Prop}{s:Ab}
end HT
namespace L2
open PySem PySem.Spec PyProof.Rows
section
variable {X:Cx}{e es:Expr}{te ts:TE}{pos p2:Pos}
end
end L2
namespace HT
open PySem PyProof.Rows
section
open PySem.SeqAt
open PySem.AutoSeq1 (wpAny_loadPart')
open PySem.MeetsSeq PySem.MeetsSeq2 PySem.MeetsSeq3
end
section
variable {prog:Am}{w:AB}{A:Aw}{E:Value->Ab->Prop}{s:Ab}
end
end HT
namespace L2
open PySem PySem.Spec PyProof.Rows
section
variable {X:Cx}{pos:Pos}
end
section
variable {prog:Am}{w:AB}{A:Aw}{E:Value->Ab->Prop}{s:Ab}{it d:Addr}{i ep:Nat}{es:Array DictEntry}{od:Obj}
end
section
variable {X:Cx}{tg:Expr}
end
section
variable {prog:Am}{w:AB}{K:Type} [DecidableEq K] {knd:HeapKind prog w K}{A:Aw}{E:Value->Ab->Prop}{s:Ab}{d a:Addr}{xs:List (K×Addr×Value)}{k:K}
end
section
variable {X:Cx}{o e f:Expr}{apos cpos:Pos}{td ty tx:TE}
end
end L2
namespace RP
end RP
namespace L2
open PySem PySem.Spec PyProof.Rows
theorem zcK{bt:Nat->Nat->Bool}:∀n,argBest bt n<=n
 | 0=>Ai _
 |n+1=>by
  show (if bt (n+1) (argBest bt n)=true then n+1 else argBest bt n)<=n+1;split
  .exact Ai _
  .exact Nat.le_succ_of_le (zcK n)
theorem zcJ{v:Nat->Int}:∀(n j:Nat),j<=n->v (argBest (λi j=>decide (v i<v j)) n)<=v j
 | 0,j,h=>by
  obtain rfl:j=0:=by lia
  exact Co _
 |n+1,j,h=>by
  show v (if decide (v (n+1)<v (argBest (λi j=>decide (v i<v j)) n))=true then n+1 else argBest (λi j=>decide (v i<v j)) n)<=v j
  by_cases hb:v (n+1)<v (argBest (λi j=>decide (v i<v j)) n)
  .rw[if_pos (decide_eq_true hb)];rcases B8 n j with q |q
   .obtain rfl:j=n+1:=by lia
    exact Co _
   .have:=zcJ (v:=v) n j q;lia
  .rw[if_neg (by simpa using hb)];rcases B8 n j with q |q
   .obtain rfl:j=n+1:=by lia
    lia
   .exact zcJ n j q
theorem zcL{v:Nat->Int}:∀(n j:Nat),j<=n->v j<=v (argBest (λi j=>decide (v i > v j)) n)
 | 0,j,h=>by
  obtain rfl:j=0:=by lia
  exact Co _
 |n+1,j,h=>by
  show v j<=v (if decide (v (n+1) > v (argBest (λi j=>decide (v i > v j)) n))=true then n+1 else argBest (λi j=>decide (v i > v j)) n)
  by_cases hb:v (n+1) > v (argBest (λi j=>decide (v i > v j)) n)
  .rw[if_pos (decide_eq_true hb)];rcases B8 n j with q |q
   .obtain rfl:j=n+1:=by lia
    exact Co _
   .have:=zcL (v:=v) n j q;lia
  .rw[if_neg (by simpa using hb)];rcases B8 n j with q |q
   .obtain rfl:j=n+1:=by lia
    lia
   .exact zcL n j q
theorem zhc:∀(ns:List Int) (its:List Value),Vals (ns.map V.int) its->∃ts:Array (Int×Tok),its.toArray=intItems ts/\ts.toList.map (·.1)=ns:=by
 intro ns its r
 have:∀(ns:List Int) (its:List Value),Vals (ns.map V.int) its->∃ts:List (Int×Tok),its=ts.map (λp=>Value.int p.1 p.2)/\ts.map (·.1)=ns:=by
  intro ns
  induction ns with
  |nil=>intro its r;cases r;exact⟨[],rfl,rfl⟩
  |cons n ns ih =>
   intro its r
   cases r with
   |cons h t =>
    obtain⟨ts,h1,h2⟩:=ih _ t;obtain⟨tk,rfl⟩:=(show ∃t,_=Value.int n t from h);exact⟨(n,tk)::ts,by rw[h1];rfl,by rw[AZ,h2]⟩
 obtain⟨ts,h1,h2⟩:=this ns its r;exact⟨ts.toArray,by rw[h1];simp[intItems],by simpa using h2⟩
section
variable {X:Cx}
noncomputable def IsMin(ns:List Int)(m:Int):Prop:=m∈ns/\∀n∈ns,m<=n
noncomputable def IsMax(ns:List Int)(m:Int):Prop:=m∈ns/\∀n∈ns,n<=m
theorem zdo (hh:X.calm=true):CallR X (.builtin "min") (λxs H Q=>∃(p:Addr) (ns:List Int),xs=[.ref p]/\SqL X.K H p (ns.map V.int)/\ns≠[]/\∀m,IsMin ns m->Q (.int m) H):=by
 intro pins s σ H xs us Q I r h;obtain⟨p,ns,rfl,hq,hne,q⟩:=h;obtain⟨u,rfl,ru⟩:=vals1 r
 cases (show u=AM p from ru)
 obtain⟨its,rv,pl,hz⟩:=I.list hq;obtain⟨ts,h1,h2⟩:=zhc ns its rv;have hl1:=pl.isList;rw[h1]at hl1;have hgl:ns.length=ts.size:=by rw[<- h2];simp
 have hpos:0<ns.length:=B6.mpr hne;have gd:∀j,numAt ts j=ns.getD j 0:=λj=>by rw[numAt_eq,h2]
 refine min_intList (I.ok.hd hh) hl1 (by lia) λv h' tk hv hk=>?_
 obtain⟨t,rfl⟩:=intItems_at hv;have hle:=zcK (bt:=λi j=>decide (numAt ts i<numAt ts j)) (ts.size-1);refine⟨.int _,H,I.kept hk,⟨_,rfl⟩,q _ ⟨?_,λn hn=>?_⟩⟩
 .rw[gd,Ah,Ad (by lia)];exact Bz _
 .obtain⟨j,hj,rfl⟩:=Ct hn;have:=zcJ (v:=numAt ts) (ts.size-1) j (by lia);rw[gd j,Ah,Ad hj]at this;exact this
theorem ze4 (hh:X.calm=true):CallR X (.builtin "max") (λxs H Q=>∃(p:Addr) (ns:List Int),xs=[.ref p]/\SqL X.K H p (ns.map V.int)/\ns≠[]/\∀m,IsMax ns m->Q (.int m) H):=by
 intro pins s σ H xs us Q I r h;obtain⟨p,ns,rfl,hq,hne,q⟩:=h;obtain⟨u,rfl,ru⟩:=vals1 r
 cases (show u=AM p from ru)
 obtain⟨its,rv,pl,hz⟩:=I.list hq;obtain⟨ts,h1,h2⟩:=zhc ns its rv;have hl1:=pl.isList;rw[h1]at hl1;have hgl:ns.length=ts.size:=by rw[<- h2];simp
 have hpos:0<ns.length:=B6.mpr hne;have gd:∀j,numAt ts j=ns.getD j 0:=λj=>by rw[numAt_eq,h2]
 refine max_intList (I.ok.hd hh) hl1 (by lia) λv h' tk hv hk=>?_
 obtain⟨t,rfl⟩:=intItems_at hv;have hle:=zcK (bt:=λi j=>decide (numAt ts i > numAt ts j)) (ts.size-1);refine⟨.int _,H,I.kept hk,⟨_,rfl⟩,q _ ⟨?_,λn hn=>?_⟩⟩
 .rw[gd,Ah,Ad (by lia)];exact Bz _
 .obtain⟨j,hj,rfl⟩:=Ct hn;have:=zcL (v:=numAt ts) (ts.size-1) j (by lia);rw[gd j,Ah,Ad hj]at this;exact this
end
end L2
namespace HT
open PySem PyProof.Rows
variable {prog:Am}{w:AB}{A:Aw}{E:Value->Ab->Prop}{s:Ab}
end HT
namespace L2
open PySem PySem.Spec PyProof.Rows
section
variable {X:Cx}{e es:Expr}{te ts:TE}{pos p2:Pos}
end
section
variable {prog:Am}{w:AB}{A:Aw}{E:Value->Ab->Prop}{s:Ab}
end
section
variable {X:Cx}
end
section
variable {X:Cx}
end
section
variable {prog:Am}{w:AB}{A:Aw}{E:Value->Ab->Prop}{s:Ab}
end
section
variable {X:Cx}{pins:List (Addr×Obj)}{σ:St}
end
section
variable {X:Cx}{l m:Expr}{t:TA}{p p2 pos pos2:Pos}
end
section
variable {X:Cx}{a:Expr}{t:TA}{p p2 pos pos2:Pos}
end
section
variable {X:Cx}
end
theorem zgp{P:Am}{w:AB}{K:W.Frag}{tg:Expr}(it:Addr)(lo:Int)(n:Nat):Turn P w K tg (Itr lo n) [it] it (λi h=>IsLongIter h it (lo+(i:Nat)*1) ((n:Int)-(i:Nat)) 1) where
 mem:=by simp
 obj:=λi h st b hb=>by
  have e:b=it:=by simpa using hb
  subst e
  exact⟨_,st,λv z=>by
   have z':Data.fields _=Data.cell v:=z
   cases z'⟩
 keep:=λi h h' st k=>k it (by simp) _ st
 item:=by
  intro X hP hw hK hc i pins s σ H E I hf st hg;subst hP hw hK;obtain⟨f0,f1,f2,f3,f4,f5⟩:=hf it (by simp);have W:=Walks.longrange (prog:=X.prog) (w:=X.w) (I.ok.hd hc) it lo 1 n;refine W.item i s _ _ hg st λv h' tk hv st' kk=>?_
  obtain⟨t,rfl⟩:=hv;have I1:Inv X pins σ H { s with heap:=h',toks:=tk }:=I.turned (λb o hb e=>kk b o (by simpa using hb) e) f0 f1 f3 f4 f5;refine⟨_,rfl,go_of (s:={ s with heap:=h',toks:=tk }) (n:="longrange_iterator") st' rfl rfl (by decide) ⟨.int (lo+i),H,I1,⟨t,?_⟩,⟨rfl,rfl⟩,st',λb hb=>(hf b hb).1⟩⟩;rw[Int.mul_one]
 done:=by intro X hP hw hK hc i pins s σ H E I hf st hg;subst hP hw hK;obtain⟨f0,f1,f2,f3,f4,f5⟩:=hf it (by simp);exact wpAny_pyNext_long_end (I.ok.hd hc) st (by have:n<=i:=hg;lia) λh' eb=>⟨rfl,I.turned (t':=s.toks) (λb o hb e=>eb b o hb e) f0 f1 f3 f4 f5⟩
 self:=λ_ _ _ _ _ st h=>wpAny_pyIter_longiter st h
section
variable {X:Cx}{tg:Expr}
theorem zgP{pins:List (Addr × Obj)}{σ : St}{H:Hp}{s:Ab}{R:It -> Hp -> Prop}{E:Value -> Ab -> Prop}{lo hi:Int}{t u v:Tok}{tk:Nat}(I:Inv X pins σ H s)
  (q:R (Itr lo (hi-lo).toNat) H):Aq (Ap X.prog X.w) X.A (pyIter (.ref s.heap.objs.size)) (PIE X pins σ tg R) E { s with heap:=s.heap.push { cls:=.type "range",data:=.fields #[.int lo t,.int hi u,.int 1 v] },toks:=tk }:=by
 have I1:Inv X pins σ H { s with heap:=s.heap.push { cls:=.type "range",data:=.fields #[.int lo t,.int hi u,.int 1 v] },toks:=tk }:=I.kept λb o e=>Ag _ e
 have e1:lo+((0:Nat):Int)*1=lo:=by simp
 have e2:(((hi-lo).toNat:Nat):Int)-((0:Nat):Int)=Bq lo hi 1:=by rw[rangeSize_one];split <;> lia
 cases hs:Builtin.Range.small lo hi 1 with
 |true =>
  refine wpAny_pyIter_range (IsRange.new ..) hs ?_
  refine⟨(s.heap.push { cls:=.type "range",data:=.fields #[.int lo t,.int hi u,.int 1 v] }).objs.size,[(s.heap.push { cls:=.type "range",data:=.fields #[.int lo t,.int hi u,.int 1 v] }).objs.size],_,_,H,rfl,
   I1.kept (t':=tk) λb o e=>Ag _ e,zdD _ lo (hi-lo).toNat,?_,λb hb=>?_,q⟩
  .show IsRangeIter _ _ (lo+((0:Nat):Int)*1) ((((hi-lo).toNat:Nat):Int)-((0:Nat):Int)) 1;rw[e1,e2];exact Ar _ rfl
  .have e:b=(s.heap.push { cls:=.type "range",data:=.fields #[.int lo t,.int hi u,.int 1 v] }).objs.size:=by simpa using hb
   subst e;exact I1.fpOk (Ai _) (I1.hok.fresh (Ai _))
 |false =>
  refine wpAny_pyIter_longrange (IsRange.new ..) hs ?_
  refine⟨(s.heap.push { cls:=.type "range",data:=.fields #[.int lo t,.int hi u,.int 1 v] }).objs.size,[(s.heap.push { cls:=.type "range",data:=.fields #[.int lo t,.int hi u,.int 1 v] }).objs.size],_,_,H,rfl,
   I1.kept (t':=tk) λb o e=>Ag _ e,zgp _ lo (hi-lo).toNat,?_,λb hb=>?_,q⟩
  .show IsLongIter _ _ (lo+((0:Nat):Int)*1) ((((hi-lo).toNat:Nat):Int)-((0:Nat):Int)) 1;rw[e1,e2];exact Ar _ rfl
  .have e:b=(s.heap.push { cls:=.type "range",data:=.fields #[.int lo t,.int hi u,.int 1 v] }).objs.size:=by simpa using hb
   subst e;exact I1.fpOk (Ai _) (I1.hok.fresh (Ai _))
noncomputable def iRngB(ta:TA):TI:=λσ H R=>ta σ H λvs H1=>∃i j:Int,vs=[.int i,.int j]/\R (Itr i (j-i).toNat) H1
theorem zeK {a b:Expr}{ta:TA}{p pos:Pos}(hg:Gl X "range") (hm:X.mg "range" = none) (ha:PA X [a, b] ta) (hs:AA [a, b] X.env = [(false, eval a X.env), (false, eval b X.env)] := by rfl) (hs2:AA [b] X.env = [(false, eval b X.env)] := by rfl) :
  PI X tg (.Call (.Name "range" p) [a,b] [] pos) (iRngB ta):=by
 intro pins s σ H R I h;refine Call_ (zbW I hg hm boot_range (AV (thn (ha pos pins s σ H _ I h) λus s1 ⟨vs,H1,I1,r1,q1⟩=>?_) (by rw[hs,hs2]) (by rw[hs2];rfl)));obtain⟨i,j,e,q⟩:=q1;subst e
 cases r1 with
 |cons r rr =>
  cases rr with
  |cons r' rr =>
   cases rr
   obtain⟨t,rfl⟩:=r;obtain⟨t',rfl⟩:=r';exact call_range_2 (zgP I1 q)
end
section
variable {X:Cx}{pos:Pos}{kx vx:Expr}{tk tv:TE}
end
open AutoSeq1 (wpAny_loadPart')
section
variable {prog:Am}{w:AB}{A:Aw}{E:Value->Ab->Prop}{s:Ab}{d:Addr}{ep:Nat}{es:Array DictEntry}{od:Obj}
end
section
variable {X:Cx}
end
section
variable {X:Cx}{es:List Expr}{te:TE}{t:TA}{pos:Pos}
theorem pa_C{c:Const}{k:Nat}(ha:PE X (.Constant c k pos) te)(hr:PA X es t):PA X (.Constant c k pos::es) (tCons te t):=zaf ha hr (by rfl)
theorem pa_U{o:UnaryOp}{a:Expr}(ha:PE X (.UnaryOp o a pos) te)(hr:PA X es t):PA X (.UnaryOp o a pos::es) (tCons te t):=zaf ha hr (by rfl)
theorem pa_B{a b:Expr}{o:Operator}(ha:PE X (.BinOp a o b pos) te)(hr:PA X es t):PA X (.BinOp a o b pos::es) (tCons te t):=zaf ha hr (by rfl)
theorem pa_N{x:Str}(ha:PE X (.Name x pos) te)(hr:PA X es t):PA X (.Name x pos::es) (tCons te t):=zaf ha hr (by rfl)
end
theorem zaA{i:Nat}{v:V}{σ:St}{H:Hp}{Q:St->Hp->Prop}:gName i v σ H Q=Q (σ.set i (some v)) H:=rfl
theorem zj6{i:Nat}{v:V}{u:TS}{D:Ends}{σ:St}{H:Hp}:tSeq (tAsg (tC v) (gName i)) u D σ H=u D (σ.set i (some v)) H:=rfl
section
variable {X:Cx}{tg:Expr}
end
inductive IsC:Expr->V->Prop where
 |int {n:Int} {k:Nat} {p:Pos}:IsC (.Constant (.int n) k p) (.int n)
 |bl {b:Bool} {k:Nat} {p:Pos}:IsC (.Constant (.bool b) k p) (.bl b)
 |neg {n:Int} {k:Nat} {p q:Pos}:IsC (.UnaryOp .USub (.Constant (.int n) k p) q) (.int (-n))
inductive IsPs:List Expr->List (V×V)->Prop where
 |nil:IsPs [] []
 |cons {a b:Expr} {x y:V} {k:Nat} {p:Pos} {es:List Expr} {l:List (V×V)}:IsC a x->IsC b y->IsPs es l->IsPs (.Tuple [a,b] k p::es) ((x,y)::l)
inductive RetPs:List Stmt->List (V×V)->Prop where
 |mk {es:List Expr} {l:List (V×V)} {p q:Pos}:IsPs es l->RetPs [.Return (some (.List es p)) q] l
section
variable {X:Cx}
end
section
variable {X:Cx}
end
section
variable {prog:Am}{w:AB}{A:Aw}{E:Value->Ab->Prop}{s:Ab}{T:String}{r d:Addr}{n:Nat}{P:Nat->Value->Prop}{OK:Heap->Prop}
end
section
variable {X:Cx}
end
section
variable {X:Cx}{o e f:Expr}{apos cpos:Pos}{td ty tx:TE}
end
section
variable {X:Cx}{tg:Expr}
end
section
variable {prog:Am}{w:AB}{A:Aw}{E:Value->Ab->Prop}{s:Ab}{d it v:Addr}{i ep:Nat}{es:Array DictEntry}{od:Obj}{ok ov:Value}
end
section
variable {X:Cx}
end
open PySem PyProof.Rows
section
variable {X:Cx}{a b e v1 v2:Expr}{es rest:List Expr}{te ta tb:TE}{pos:Pos}
theorem zfg{x:Str}(h:(x.length == 0)=true):x=Str.empty:=by have h:=eq_of_beq h;obtain⟨c⟩:=x;have:c.size=0:=h;have:c=#[]:=Array.eq_empty_of_size_eq_zero this;rw[this];rfl
theorem zbb:OpR X (Cu .Add) (λx y H Q=>∃a b,x=.str a/\y=.str b/\a.length+b.length<=sizeLine/\Q (.str (a++b)) H):=by
 intro pins s σ H x y v u Q I rx ry h;obtain⟨a,b,rfl,rfl,hz,q⟩:=h;obtain⟨t,rfl⟩:=rx;obtain⟨t',rfl⟩:=ry;refine PySem.P.add_str ?_
 split
 .rename_i h
  rw[zfg h]at q
  have e:Str.empty++b=b:=by obtain⟨c⟩:=b;show (⟨#[]++c⟩:Str)=⟨c⟩;rw[Array.empty_append]
  rw[e]at q;exact⟨.str _,H,I,⟨_,rfl⟩,q⟩
 .split
  .rename_i h
   rw[zfg h]at q
   have e:a++Str.empty=a:=by obtain⟨c⟩:=a;show (⟨c++#[]⟩:Str)=⟨c⟩;rw[Array.append_empty]
   rw[e]at q;exact⟨.str _,H,I,⟨_,rfl⟩,q⟩
  .refine⟨?_,.str _,H,I.tok _,⟨_,rfl⟩,q⟩
   have:(a++b).length=a.length+b.length:=by obtain⟨c⟩:=a;obtain⟨d⟩:=b;exact Array.size_append
   lia
theorem zfA:∀{ys:List Str}{its:List Value},Vals (ys.map V.str) its->StrsAre its ys
 |[],_,.nil=>.nil
 |y::ys,_,.cons r rs=>by
  obtain⟨t,rfl⟩:=r;exact .cons y t (zfA rs)
noncomputable def rJoin:V->List V->Hp->VK->Prop:=λx vs H Q=>∃(sep:Str) (l:Addr) (ys:List Str),x=.str sep/\vs=[.ref l]/\H l=some (.lst (ys.map V.str))/\(ys.map Str.length).sum+ys.length*sep.length<=16777216/\Q (.str (Bt sep ys)) H
theorem zbl:MtR X "str.join" rJoin:=by
 intro pins s σ H x vs v us Q I rx rv h;obtain⟨sep,l,ys,rfl,rfl,hq,hz,q⟩:=h;obtain⟨t,rfl⟩:=rx;obtain⟨u,rfl,ru⟩:=vals1 rv
 cases ru
 obtain⟨z,its,n,r,hl,e⟩:=I.lstM hq;exact join_list ⟨_,e,rfl,n,rfl⟩ (by simpa using zfA r) hz λt' k=>⟨.str _,H,I.tok _,⟨_,rfl⟩,q⟩
noncomputable abbrev TJ:=St->Hp->Str->VK->Prop
noncomputable def PJ(X:Cx)(es:List Expr)(t:TJ):Prop:=∀(pins:List (Addr×Obj)) (s:Ab) (σ:St) (H:Hp) (out:Str) (Q:VK),Inv X pins σ H s->t σ H out Q ->
 Aq (Ap X.prog X.w) X.A (joinParts out (evalEach es X.env)) (EP X pins σ Q) X.xe s
noncomputable def tJNil:TJ:=λ_ H out Q=>out.length<=sizeLine/\Q (.str out) H
noncomputable def zjB(te:TE)(tr:TJ):TJ:=λσ H out Q=>te σ H λx H1=>∃y,x=.str y/\(out++y).length<=sizeLine/\tr σ H1 (out++y) Q
theorem zjM:PJ X [] tJNil:=by intro pins s σ H out Q I ⟨hz,q⟩;exact joinParts_nilE (joinParts_nil ⟨.str _,H,I.tok _,⟨_,rfl⟩,q⟩ hz)
theorem zfi{tr:TJ}(he:PE X e te)(hr:PJ X es tr):PJ X (e::es) (zjB te tr):=by intro pins s σ H out Q I h;refine joinParts_consE (joinParts_cons (thn (he pins s σ H _ I h) λv s1 ⟨x,H1,I1,r1,y,hx,hz,q⟩=>?_));subst hx;obtain⟨t,rfl⟩:=r1;exact⟨hz,hr pins s1 σ H1 _ Q I1 q⟩
theorem zi4{t:TJ}(h:PJ X (v1::v2::rest) t):PE X (.JoinedStr (v1::v2::rest) pos) (λσ H Q=>t σ H Str.empty Q):=by intro pins s σ H Q I q;exact JoinedStr_many (h pins s σ H _ Q I q)
noncomputable def tFmt(te:TE):TE:=λσ H Q=>te σ H λx H1=>(∃i,x=.int i/\i.natAbs.log2<1920/\Q (.str (Cf i)) H1)∨∃y,x=.str y/\y.length<=sizeLine/\Q (.str y) H1
theorem ziq(he:PE X e te):PE X (.FormattedValue e (-1) none pos) (tFmt te):=by
 intro pins s σ H Q I h;refine FormattedValue_plain (thn (he pins s σ H _ I h) λv s1 ⟨x,H1,I1,r1,q⟩=>?_);rcases q with⟨i,rfl,hz,q⟩ |⟨y,rfl,hz,q⟩
 .obtain⟨t,rfl⟩:=r1;exact formatField_int_small hz ⟨.str _,H1,I1.tok _,⟨_,rfl⟩,q⟩
 .obtain⟨t,rfl⟩:=r1;exact formatField_str (λt' k=>⟨.str _,H1,I1.tok _,⟨_,rfl⟩,q⟩) hz
end
open PySem
theorem sC{N P:List Str}{sc:Scope}(a:sc.kind = .function := by rfl)(b:sc.isCoroutine=false := by rfl)(c:sc.isGenerator=false := by rfl)(d:N.Nodup := by decide +kernel)(e:N.take P.length=P := by rfl)
  (f:∀x∈P,sc.names.lookup x=some .local∨sc.names.lookup x=some .cell:=by decide +kernel) (g:∀y∈sc.names,y.2≠.free:=by decide +kernel):FnScope N P sc:=⟨a,b,c,d,e,f,g⟩
section
variable {X:Cx}{k j:Nat}{x:Str}{ps:List Str}{sp:Sp}{e:Expr}{es:List Expr}{t:TA}{te:TE}{p pos pos':Pos}
theorem pC (g:Fn X.prog X.w X.K X.mg X.base k x ps sp) (hr:Room j X.A) (ha:PA X (e :: es) t) (hj:k <= j := by decide) (hg:Gl X x := by rfl) (hdb:(x == ("__debug__" : Str))=false := by decide)
  (he:AA (e::es) X.env=(false,eval e X.env)::AA es X.env:=by rfl) (hpl:(CB pos (AA es X.env)).any (·.1)=false:=by rfl):PE X (.Call (.Name x p) (e::es) [] pos) (tCall sp [] E0 t) :=
 zgY g.ok (hr.mono hj) hg g.m g.kp g.b .nil pass0 ha hdb he hpl
theorem nG(i:Nat)(hN:X.N.Nodup)(hi:X.N[i]?=some x:=by rfl)(hx:Loc X.env.scope x:=by exact Or.inl rfl)(hf:X.fn x=true∨X.env.scope.names.lookup x=some .local:=by first |exact .inl rfl |exact .inr rfl |assumption):PG X (.Name x pos) (gName i) :=
 zba hN hi hx hf
theorem sE(i:Nat)(hN:X.N.Nodup)(he:PE X e te)(hi:X.N[i]? = some x := by rfl)(hx:Loc X.env.scope x := by exact Or.inl rfl)(hs:swapsWith e (some (.Name x pos')) pos.line X.env=pure false := by rfl)
  (hf:X.fn x=true∨X.env.scope.names.lookup x=some .local:=by first |exact .inl rfl |exact .inr rfl |assumption):PS X (.Assign [.Name x pos'] e pos) (tAsg te (gName i)) :=
 zdK hN hi hx he hs hf
end
theorem bO{osc:Scope}{N:List Str}{sc:Scope}{N':List Str}{sel:List (Option Nat)}(a:sc.kind = .function := by rfl)(b:∀y ∈ sc.names, y.2 ≠ .cell := by decide +kernel)(c:∀y ∈ sc.names, y.2 = .local -> sc.names.lookup y.1=some .local := by decide +kernel)
  (d:∀y∈sc.names,y.2=.free->osc.names.lookup y.1=some .cell∨osc.names.lookup y.1=some .free:=by decide +kernel) (e:sel.length=N'.length:=by rfl) (f:∀p∈sel.zip N',∀i∈p.1,N[i]?=some p.2/\sc.names.lookup p.2=some .free:=by decide +kernel):BlkOk osc N sc N' sel:=⟨a,b,c,d,e,f⟩
section
variable {K:W.Frag}{x qual:Str}{st:Stmt}{f:Addr}{fd:A5}
theorem Fun.b1{p0:Str}(F:Fun K x qual st f fd)(h:∀(kV doc pm:Value) (an:Option Addr) (cdv ct a0:Value),bindArgs (C8 x qual (zaY st) (zaQ st) (zae st) .none kV doc pm an cdv ct) ⟨[a0],[]⟩=pure [(p0,a0)]:=by intros;rfl):Binds K fd [p0] [] :=
 F.binds λkV doc pm an cdv ct us hl=>match us,hl with |[a0],_=>h kV doc pm an cdv ct a0
theorem Fun.b2{p0 p1:Str}(F:Fun K x qual st f fd)(h:∀(kV doc pm:Value) (an:Option Addr) (cdv ct a0 a1:Value),bindArgs (C8 x qual (zaY st) (zaQ st) (zae st) .none kV doc pm an cdv ct) ⟨[a0,a1],[]⟩=pure [(p0,a0),(p1,a1)]:=by intros;rfl):Binds K fd [p0,p1] [] :=
 F.binds λkV doc pm an cdv ct us hl=>match us,hl with |[a0,a1],_=>h kV doc pm an cdv ct a0 a1
theorem Fun.b3{p0 p1 p2:Str}(F:Fun K x qual st f fd)(h:∀(kV doc pm:Value) (an:Option Addr) (cdv ct a0 a1 a2:Value),bindArgs (C8 x qual (zaY st) (zaQ st) (zae st) .none kV doc pm an cdv ct) ⟨[a0,a1,a2],[]⟩=pure [(p0,a0),(p1,a1),(p2,a2)]:=by intros;rfl):Binds K fd [p0,p1,p2] [] :=
 F.binds λkV doc pm an cdv ct us hl=>match us,hl with |[a0,a1,a2],_=>h kV doc pm an cdv ct a0 a1 a2
end
noncomputable def DA(K:W.Frag)(x:Str)(st:Stmt):Prop:=∃(f:Addr) (od an:Option Addr) (sl:Array (Option Value)) (oc kV dc pm cd ct:Value),BD K Au x=some (some (.ref f)) /\
 K.lookup f=some ⟨oc,od,.func (C8 x x (zaY st) (zaQ st) (zae st) .none kV dc pm an cd ct),sl⟩/\W.codeIn K cd x=true/\Cv K (.ref f)=true
section
variable {K:W.Frag}{mg:Str->Option Value}{h:Heap}{x:Str}{st:Stmt}
theorem DA.mk{f:Addr}{od an:Option Addr}{sl:Array (Option Value)}{oc kV dc pm cd ct:Value}(a:BD K Au x=some (some (.ref f)))
  (l:K.lookup f=some ⟨oc,od,.func (C8 x x (zaY st) (zaQ st) (zae st) .none kV dc pm an cd ct),sl⟩) (c:W.codeIn K cd x=true) (k:Cv K (.ref f)=true):DA K x st :=
 ⟨f,od,an,sl,oc,kV,dc,pm,cd,ct,a,l,c,k⟩
theorem DA.d1{p0:Str}(D:DA K x st)(X:K.In h)(G:h.Ns Au mg)(hb:∀(kV doc pm:Value) (an:Option Addr) (cdv ct a0:Value),bindArgs (C8 x x (zaY st) (zaQ st) (zae st) .none kV doc pm an cdv ct) ⟨[a0],[]⟩=pure [(p0,a0)]:=by intros;rfl):Nonempty (Df K mg x st [p0]):=by obtain⟨f,od,an,sl,oc,kV,dc,pm,cd,ct,a,l,c,k⟩:=D;exact⟨⟨f,_,zcS l c k,B7 X G a,(zcS l c k).b1 hb⟩⟩
theorem DA.d2{p0 p1:Str}(D:DA K x st)(X:K.In h)(G:h.Ns Au mg)(hb:∀(kV doc pm:Value) (an:Option Addr) (cdv ct a0 a1:Value),bindArgs (C8 x x (zaY st) (zaQ st) (zae st) .none kV doc pm an cdv ct) ⟨[a0,a1],[]⟩=pure [(p0,a0),(p1,a1)]:=by intros;rfl):Nonempty (Df K mg x st [p0,p1]):=by obtain⟨f,od,an,sl,oc,kV,dc,pm,cd,ct,a,l,c,k⟩:=D;exact⟨⟨f,_,zcS l c k,B7 X G a,(zcS l c k).b2 hb⟩⟩
theorem DA.d3{p0 p1 p2:Str}(D:DA K x st)(X:K.In h)(G:h.Ns Au mg)(hb:∀(kV doc pm:Value) (an:Option Addr) (cdv ct a0 a1 a2:Value),bindArgs (C8 x x (zaY st) (zaQ st) (zae st) .none kV doc pm an cdv ct) ⟨[a0,a1,a2],[]⟩=pure [(p0,a0),(p1,a1),(p2,a2)]:=by intros;rfl):Nonempty (Df K mg x st [p0,p1,p2]):=by obtain⟨f,od,an,sl,oc,kV,dc,pm,cd,ct,a,l,c,k⟩:=D;exact⟨⟨f,_,zcS l c k,B7 X G a,(zcS l c k).b3 hb⟩⟩
end
section
variable {X:Cx}{pos:Pos}
end
structure Fly (B:Heap) (l:List Env) (e:Addr) (o:Obj) (vs:Array Value) (fl:Value) (h:Heap):Prop where
 stay:B.StaysIn h
 new:B.get? e=none
 fr:h.FunFrames B l
 tb:∃T oT ts,h.get? e=some { o with data:=.fields (vs.setIfInBounds 1 (.ref T)) }/\1<vs.size/\B.get? T=none/\T≠e/\h.get? T=some oT/\oT.data=.fields ts/\ts[3]?=some fl
section
variable {M:Db}{A:Aw}{E:Value->Ab->Prop}{s:Ab}{B:Heap}{env:Env}{outer l:List Env}{L e:Addr}{o:Obj}{vs us:Array Value}{fl:Value}{Q:Unit->Ab->Prop}
theorem zdO{h:Heap}{c b:Addr}{u v:Obj}{ts:Array Value}(hc:h.get? c=some u)(hd:u.data=.fields ts)(hb:h.get? b=some v)(hn:∀ws,v.data≠.fields ws):b≠c:=by
 rintro rfl;rw[hc]at hb
 cases hb
 exact hn _ hd
theorem zfn{b c:Addr}{u:Obj}(hb:B.get? b=some u)(hc:B.get? c=none):b≠c:=by
 rintro rfl;rw[hc]at hb
 cases hb
theorem zdN{head:Value}{had:Bool}(hfr:A.frames=some (env :: outer))(hl:s.heap.FunFrames B (env :: outer))(hf:env.frame=some L)(he:s.heap.get? e=some { o with data := .fields us })(hkb:B.StaysIn s.heap)(hen:B.get? e=none)
  (hsz:1<us.size) (huv:∀x,us.setIfInBounds 1 x=vs.setIfInBounds 1 x) (h:∀h',Fly B (env::outer) e o vs (By L) h'->s.heap.UpToSlots h'->Q () { s with heap:=h' }) :
  Aq M A (do let a <- frameOf env;let pl <- entryPlaceOf L had;let b <- EntryCells.newEntry head a .none (By L) .none pl;setField (.ref e) 1 b) Q E s:=by
 have hes:e ∉ (env::outer).filterMap (·.frame):=λz=>by obtain⟨_,v,hv,hn⟩:=hl.mem z;exact zdO he rfl hv hn rfl
 refine Ac (wpAny_frameOf_fun hfr hl hf λh1 k1=>?_);refine Ac (wpAny_entryPlaceOf λpl hpl=>?_);unfold EntryCells.newEntry newFields;refine Ac (CQ ?_ (hpl.sizeOk5 _ _ _ _ _));have e1:h1.get? e=some { o with data:=.fields us }:=(k1.2.1 e hes).trans he;have b1:B.StaysIn h1:=λb u q=>(k1.2.1 b λz=>by rw[(hl.mem z).1]at q;cases q).trans (hkb b u q)
 generalize hT:({ cls:=.type "traceback",data:=.fields ([head,.ref L,.none,By L,.none]++(if pl.isEmpty then Ay 6 BQ else pl)).toArray }:Obj)=oT;have hTd:oT.data=.fields ([head,.ref L,.none,By L,.none]++(if pl.isEmpty then Ay 6 BQ else pl)).toArray:=by rw[<- hT]
 have hTf:oT.isFreed=false:=by rw[<- hT];rfl
 have ne:h1.objs.size≠e:=Nat.ne_of_gt (Ao e1);refine wpAny_setField (Ag _ e1) rfl hsz ?_
 have up:∀b u,b≠e->h1.get? b=some u->((h1.push oT).update e (Obj.mapFields (·.setIfInBounds 1 (AM h1.objs.size)))).get? b=some u:=λb u z q=>by rw[BL _ _ (BJ z)];exact Ag _ q
 have sl:∀b u,s.heap.get? b=some u->(∀ws,u.data≠.fields ws)->∃x,((h1.push oT).update e (Obj.mapFields (·.setIfInBounds 1 (AM h1.objs.size)))).get? b=some { u with slots:=x }:=λb u q n=>by obtain⟨x,hx⟩:=k1.2.2 b u q;exact⟨x,up b _ (zdO he rfl q n) hx⟩
 refine h _ ⟨λb u q=>up b u (zfn q hen) (b1 b u q),hen,hl.of_keeps λb u q n=>?_,⟨h1.objs.size,oT,_,?_,?_,b1.fresh,ne,?_,hTd,?_⟩⟩ sl
 .obtain⟨x,hx⟩:=sl b u q n;exact⟨_,hx,rfl⟩
 .rw[<- huv];exact Heap.get?_update_self _ (Ag _ e1) rfl
 .have:=congrArg Array.size (huv BQ);simp only[Array.size_setIfInBounds]at this;lia
 .exact (BL _ _ (BJ ne)).trans (Ar h1 hTf)
 .first | (simp;done) | (rcases hpl with rfl |⟨_,_,_,_,_,_,_,rfl⟩ <;> simp)
theorem zf9(hfr:A.frames=some (env :: outer))(hl:s.heap.FunFrames B (env :: outer))(hf:env.frame=some L)(he:s.heap.get? e=some { o with data := .fields vs })(hkb:B.StaysIn s.heap)(hen:B.get? e=none)(h1:vs[1]? = some .none)
  (h:∀h',Fly B (env::outer) e o vs (By L) h'->s.heap.UpToSlots h'->Q () { s with heap:=h' }):Aq M A (noteFrame (.ref e) env) Q E s:=by
 unfold noteFrame;simp only[hf];refine Ac (BO he rfl h1 ?_);rw[if_neg (by decide)];exact zdN hfr hl hf he hkb hen (CZ.mp h1).1 (λ_=>rfl) h
theorem zeP(hfr:A.frames=some (env :: outer))(hf:env.frame=some L)(F:Fly B (env :: outer) e o vs .none s.heap)
  (h:∀h',Fly B (env::outer) e o vs (By L) h'->s.heap.UpToSlots h'->Q () { s with heap:=h' }):Aq M A (noteFrame (.ref e) env) Q E s:=by
 obtain⟨T,oT,ts,he,hz,nT,Te,hT,hd,h3⟩:=F.tb;unfold noteFrame;simp only[hf];refine Ac (BO he rfl (x:=.ref T) (by simp[hz]) ?_);rw[if_pos (show (AM T != BQ)=true from by simp)];refine Ac (BO hT hd h3 ?_);rw[if_neg (by simp[By])];refine Ac (wpAny_setField hT hd (CZ.mp h3).1 ?_);have ot:∀b,b≠T->(s.heap.update T (Obj.mapFields (·.setIfInBounds 3 BQ))).get? b=s.heap.get? b:=λb z=>BL _ _ (BJ z)
 refine zdN (s:={ s with heap:=s.heap.update T (Obj.mapFields (·.setIfInBounds 3 BQ)) }) hfr (F.fr.of_keeps λb u q n=>⟨u,(ot b (zdO hT hd q n)).trans q,rfl⟩) hf ((ot e (BJ Te)).trans he)
  (λb u q=>(ot b (zfn q nT)).trans (F.stay b u q)) F.new (by simpa using hz) (λx=>by simp) λh' x1 x2=>h h' x1 λb u q n=>x2 b u ((ot b (zdO hT hd q n)).trans q) n
theorem zb6(F:Fly B l e o vs fl s.heap)(h:∀h',Fly B l e o vs .none h'->s.heap.UpToSlots h'->Q () { s with heap:=h' }):Aq M A (setFlight (.ref e) none) Q E s:=by
 obtain⟨T,oT,ts,he,hz,nT,Te,hT,hd,h3⟩:=F.tb;have z3:3<ts.size:=(CZ.mp h3).1;have ot:∀b,b≠T->(s.heap.update T (Obj.mapFields (·.setIfInBounds 3 ((none:Option Addr).elim BQ λf=>By f)))).get? b=s.heap.get? b:=λb z=>BL _ _ (BJ z)
 unfold setFlight;refine Ac (BO he rfl (x:=.ref T) (by simp[hz]) ?_);rw[if_pos (show (AM T != BQ)=true from by simp)]
 refine wpAny_setField hT hd z3 (h _ ⟨λb u q=>(ot b (zfn q nT)).trans (F.stay b u q),F.new,F.fr.of_keeps λb u q n=>⟨u,(ot b (zdO hT hd q n)).trans q,rfl⟩,T,_,_,(ot e (BJ Te)).trans he,hz,nT,Te,
  Heap.get?_update_self _ hT (Obj.isFreed_of_fields (Obj.data_mapFields hd _)),Obj.data_mapFields hd _,by simp[z3]⟩ λb u q n=>⟨u.slots,(ot b (zdO hT hd q n)).trans q⟩)
theorem Fly.out(F:Fly B (env::outer) e o vs fl s.heap):Fly B outer e o vs fl s.heap:=⟨F.stay,F.new,F.fr.2.2,F.tb⟩
theorem zfp(hfr:A.frames=some (env :: outer))(hl:s.heap.FunFrames B (env :: outer))(hf:env.frame=some L)(he:s.heap.get? e=some { o with data := .fields vs })(hkb:B.StaysIn s.heap)(hen:B.get? e=none)(h1:vs[1]? = some .none)
  (h:∀h',Fly B outer e o vs .none h'->s.heap.UpToSlots h'->Q () { s with heap:=h' }):Aq M A (leaving env (.ref e)) Q E s:=by
 unfold leaving;refine Ac (zf9 hfr hl hf he hkb hen h1 λh' x1 x2=>?_);exact zb6 (s:={ s with heap:=h' }) x1 λh2 y1 y2=>h h2 (Fly.out (s:={ s with heap:=h2 }) y1) (x2.trans y2)
theorem zgd(hfr:A.frames=some (env :: outer))(hf:env.frame=some L)(F:Fly B (env :: outer) e o vs .none s.heap)
  (h:∀h',Fly B outer e o vs .none h'->s.heap.UpToSlots h'->Q () { s with heap:=h' }):Aq M A (leaving env (.ref e)) Q E s:=by
 unfold leaving;refine Ac (zeP hfr hf F λh' x1 x2=>?_);exact zb6 (s:={ s with heap:=h' }) x1 λh2 y1 y2=>h h2 (Fly.out (s:={ s with heap:=h2 }) y1) (x2.trans y2)
end
noncomputable def CX1(P:Am)(w:AB):CXT:=λouter H s E e s'=>∃(a:Addr) (H':Hp) (B:Heap) (o:Obj) (vs:Array Value),e=.ref a/\s'.os=s.os/\AllBare s'.gens/\Fly B outer a o vs .none s'.heap/\s.heap.get? a=none/\H' a=none /\
 (∀h2,B.StaysIn h2->s'.heap.UpToSlots h2->Un (frs outer) [] H H' s.heap h2/\HOk P w H' h2)/\E o.cls o.dict H'
section
variable {P:Am}{w:AB}{K:W.Frag}{mg:Str->Option Value}{base:Heap}{N:List Str}{qual:Str}{scope:Scope}{f:Addr}{cd:Value}{A:Aw}{outer:List Env}{s0:Ab}{H0:Hp}{E:XK}
 {pins:List (Addr×Obj)} {σ:St} {H:Hp} {s:Ab} {e:Addr} {o:Obj} {vs:Array Value}
theorem xe_of(I:Inv (cxOf (CX1 P w) P w K mg base N qual scope f cd A outer s0 H0 E) pins σ H s)(he:s.heap.get? e=some { o with data := .fields vs })(h1:vs[1]? = some .none)(hn:H e=none)(hnew:s0.heap.get? e=none)(h:E o.cls o.dict H) :
  (cxOf (CX1 P w) P w K mg base N qual scope f cd A outer s0 H0 E).xe (.ref e) s:=by
 let X:=cxOf (CX1 P w) P w K mg base N qual scope f cd A outer s0 H0 E
 have hfs:∀b∈frs X.stack,H b=none:=I.stkFree
 have nin:∀b,b<s0.heap.objs.size->b ∉ frs outer->b≠e->b ∉ e::frs X.stack:=λb hb h2 h3 z=>by
  rcases Ax.mp z with z |z
  .exact h3 z
  .rcases Ax.mp (show b∈s0.heap.objs.size::frs outer from z) with z |z
   .exact absurd hb (by rw[z];exact Cb _)
   .exact h2 z
 have ne0:∀b u,s0.heap.get? b=some u->b≠e:=λb u q z=>by rw[z,hnew]at q;cases q
 refine zfp (B:=W.hideAll s.heap (e::frs X.stack)) (show _=some (X.env::outer) from I.ok.frames) (W.funFrames_hide I.stack λen hen a ha=>AH _ (List.mem_filterMap.mpr ⟨en,hen,ha⟩)) rfl he (λb u q=>W.of_hideAll _ q) (W.hideAll_none _ (.head _)) h1 λh' x1 x2=>?_
 refine⟨e,H,_,o,vs,rfl,I.os,I.bare,x1,hnew,hn,λh2 k1 k2=>?_,h⟩;have st:∀b u,s.heap.get? b=some u->b ∉ e::frs X.stack->h2.get? b=some u:=λb u q z=>k1 b u (W.hideAll_get _ q z)
 have sl:∀b u,b∈frs outer->s0.heap.get? b=some u->∃x,h2.get? b=some { u with slots:=x }:=λb u hb q=>by obtain⟨_,v,hv,hd⟩:=I.ok.funs.mem hb;obtain rfl:v=u:=Bu (hv.symm.trans q);obtain⟨x,hx⟩:=I.base.slot b v q (I.ok.frf b hb) hb (by simp[cxOf]);obtain⟨y,hy⟩:=(x2.trans k2) b _ hx hd;exact⟨y,hy⟩
 refine⟨⟨λb u q n hb _=>st b u (I.base.keep b u q n hb (by simp[cxOf])) (nin b (Ao q) hb (ne0 b u q)),λb u q n hb _=>sl b u hb q,λb u q n _=>I.base.free b u q n (by simp[cxOf]),λb u q _=>?_,I.base.tups,I.base.frzs,I.base.tbls⟩,λb u q=>?_⟩
 .by_cases hb:b∈frs outer
  .obtain⟨x,hx⟩:=sl b u hb q;exact⟨_,hx⟩
  .obtain⟨v,hv⟩:=I.base.there b u q (by simp[cxOf]);exact⟨v,st b v hv (nin b (Ao q) hb (ne0 b u q))⟩
 .refine (I.hok b u q).stay (λc v hc r=>st c v r λz=>?_) (λ_ r=>r) λ_ _ r=>r
  have hH:H c≠none:=by
   rcases hc with rfl |hc
   .rw[q];simp
   .rw[hc];simp
  rcases Ax.mp z with z |z
  .rw[z]at hH;exact hH hn
  .exact hH (hfs c z)
theorem pass1{E1:XK}(hi:∀c d H',E1 c d H'->E c d H'):zcU (CX1 P w) (cxOf (CX1 P w) P w K mg base N qual scope f cd A outer s0 H0 E) E1:=by
 rintro pins σ H s e s' I ⟨a,H',B,o,vs,rfl,os,bare,F,hnew,hn,st,h⟩;refine zgd (show _=some (_::outer) from I.ok.frames) rfl F λh' x1 x2=>?_
 have hz:s0.heap.get? a=none:=by
  cases q:s0.heap.get? a with
  |none=>rfl
  |some u =>
   obtain⟨v,hv⟩:=I.base.there a u q (by simp[cxOf]);rw[hnew]at hv
   cases hv
 refine⟨a,H',B,o,vs,rfl,os.trans I.os,bare,x1,hz,hn,λh2 k1 k2=>?_,hi _ _ _ h⟩;obtain⟨un,hok⟩:=st h2 k1 (x2.trans k2);have J:=I.call' (s':={ s' with heap:=h2 }) (ch:=[]) os un hok bare (λb z=>absurd z (by simp));exact⟨J.base,J.hok⟩
end
theorem ObjOk.ex{P:Am}{w:AB}{H:Hp}{h:Heap}{a:Addr}{o:HO}(x:ObjOk P w H h a o):∃u,h.get? a=some u:=by
 cases o with
 |lst xs=>obtain⟨_,_,_,_,e⟩:=x;exact⟨_,e⟩
 |tup xs=>obtain⟨_,_,_,u,e,_⟩:=x;exact⟨_,e⟩
 |dK kvs=>obtain⟨_,_,_,_,o,_,_,e,_⟩:=x;exact⟨_,e⟩
 |dT kvs=>obtain⟨_,_,_,_,o,_,_,e,_⟩:=x;exact⟨_,e⟩
 |set S n=>obtain⟨o,_,_,_,e,_⟩:=x;exact⟨_,e⟩
 |ins C dx fs=>obtain⟨_,_,_,e,_⟩:=x;exact⟨_,e⟩
 |own y=>exact x
 |xd fs=>obtain⟨_,⟨_,_,_,e,_⟩,_⟩:=x;exact⟨_,e⟩
 |rng lo hi=>obtain⟨_,_,_,e⟩:=x;exact⟨_,e⟩
 |frz ob u=>exact⟨_,x.1⟩
 |tbl ps=>exact⟨_,x⟩
 |met f y=>exact⟨_,x⟩
 |ext φ=>exact x.2.1
theorem HOk.gone{P:Am}{w:AB}{H:Hp}{h:Heap}{a:Addr}(x:HOk P w H h)(e:h.get? a=none):H a=none:=by
 cases q:H a with
 |none=>rfl
 |some o =>
  obtain⟨u,hu⟩:=(x a o q).ex;rw[e]at hu
  cases hu
theorem zj0{K:W.Frag}{h:Heap}{C:Addr}{bB:List Value}{nw:String}(X:K.In h)(q:W.excIn K C bB nw=true) :
  ∃bm N nm qn bs hd sn sub ab col dd k0 k1 k2 k3 k5 mN,h.get? C=some (excClassObj nm qn C N bs bm hd sn sub ab col dd k0 k1 k2 k3 k5 nw)/\h.Ns N mN/\mN "__init__" = none/\OwnTail h bB bm:=by
 unfold W.excIn at q;split at q
 .rename_i dd c sl ho
  split at q
  .rename_i D bm k0 k1 k2 k3 n k5 hm hs
   simp only[AX,beq_iff_eq,Bool.not_eq_true']at q;obtain⟨⟨⟨⟨⟨q1,q2⟩,q3⟩,q4⟩,q5⟩,q6⟩:=q
   cases q1
   cases q2
   have h0:=X _ _ ho
   cases c with
   |mk nm bs mro ns qn hd sn sub ab col del =>
    cases hm
    cases q3
    cases sl with
    |mk l =>
     cases hs
     exact⟨bm,ns,nm,qn,bs,hd,sn,sub,ab,col,dd,k0,k1,k2,k3,k5,_,h0,.of_isNs (W.isNs_of_in X q5),W.nsMap_none_of_in X q5 q6,W.tail_of_in X q4⟩
  .cases q
 .cases q
section
variable {P:Am}{w:AB}{K:W.Frag}{mg:Str->Option Value}{base:Heap}{N:List Str}{qual:Str}{scope:Scope}{f:Addr}{cd:Value}{A:Aw}{outer:List Env}{s0:Ab}{H0:Hp}{E:XK}
theorem zgS{x:Str}{C:Addr}{np cpos pos:Pos}{Bn nw it:String}{bB:List Value}(FB:C4 Bn nw it bB)(hq:W.excIn K C bB nw=true)
  (hg:Gl (cxOf (CX1 P w) P w K mg base N qual scope f cd A outer s0 H0 E) x) (hm:mg x=some (.ref C)) (hd:(x == ("__debug__" : Str))=false:=by decide) :
  PS (cxOf (CX1 P w) P w K mg base N qual scope f cd A outer s0 H0 E) (.Raise (some (.Call (.Name x np) [] [] cpos)) none pos) (λ_ _ H=>E (.ref C) none H):=by
 intro pins s σ H D I h;obtain⟨bm,ns,nm,qn,bs,hdd,sn,sub,ab,col,dd,k0,k1,k2,k3,k5,mN,hC,hN,hni,T⟩:=zj0 I.kIn hq
 refine wpAny_Raise_call_subT (C:=C) (nm:=nm) (q:=qn) (N:=ns) (bs:=bs) (bm:=bm) (hdct:=hdd) (sn:=sn) (sub:=sub) (ab:=ab) (col:=col) (dd:=dd) (k0:=k0) (k1:=k1) (k2:=k2) (k3:=k3) (k5:=k5)
  FB (mN:=mN) (T.hasType FB.hasBase) (I.ok.hd rfl) rfl hni (zcF I hg hm ⟨rfl,?_⟩ hd)
 refine PyProof.Rows.evalArgs_empty ⟨rfl,A1 _,hC,hN,T,λh' e hx=>?_⟩;obtain⟨t,he,_,_⟩:=hx.there
 exact xe_of (o:={ cls:=.ref C,data:=.fields #[.ref t,.none,.none,.none,.bool false,.none] }) (I.kept (t':=s.toks) hx.keeps) he rfl (I.hok.gone hx.new) (by
  cases q:s0.heap.get? e with
  |none=>rfl
  |some u =>
   obtain⟨v,hv⟩:=I.base.there e u q (by simp[cxOf]);rw[hx.new]at hv
   cases hv) h
end
noncomputable abbrev Cx.pinned(X:Cx)(pins:List (Addr×Obj)):Cx:={ X with pn:=X.pn++pins }
noncomputable abbrev Cx.held(X:Cx)(a:Addr):Cx:={ X with A:=X.A.mark (some (.ref a)),calm:=false,xe:=λ_ _=>False }
noncomputable def excO(a:Addr)(c:Value)(d:Option Addr):HO:=.ext λh=>∃u,h.get? a=some u/\u.cls=c/\u.dict=d/\∃vs,u.data=.fields vs
noncomputable def Ends.drop(D:Ends)(i:Nat):Ends:={ nx:=λσ H=>D.nx (σ.set i none) H,rt:=D.rt,bk:=λσ H=>D.bk (σ.set i none) H,ct:=λσ H=>D.ct (σ.set i none) H }
section
variable {X:Cx}{pins:List (Addr×Obj)}{σ:St}{H:Hp}{s:Ab}{E:XK}
theorem Cx.Ok.pinned(ok:X.Ok):(X.pinned pins).Ok:=⟨ok.mod,ok.kind,ok.glob,ok.blt,ok.above,ok.inj,ok.has,ok.cab,ok.hd,ok.frames,ok.stk,ok.exf,ok.bs,ok.bsz,ok.noex,ok.exfs,ok.funs,ok.frf⟩
theorem Cx.Ok.unpinned(ok:(X.pinned pins).Ok):X.Ok:=⟨ok.mod,ok.kind,ok.glob,ok.blt,ok.above,ok.inj,ok.has,ok.cab,ok.hd,ok.frames,ok.stk,ok.exf,ok.bs,ok.bsz,ok.noex,ok.exfs,ok.funs,ok.frf⟩
theorem Inv.unpnd{ps:List (Addr×Obj)}(I:Inv (X.pinned pins) ps σ H s):Inv X pins σ H s:=⟨I.ok.unpinned,I.os,I.bare,I.base,I.loc,I.cell,I.free,I.freeC,λp hp=>I.pin p (CT _ hp),I.hok,I.len⟩
theorem Inv.held{a:Addr}(I:Inv X pins σ H s):Inv (X.held a) pins σ H s :=
 ⟨⟨I.ok.mod,I.ok.kind,I.ok.glob,I.ok.blt,I.ok.above,I.ok.inj,I.ok.has,I.ok.cab,(λz=>nomatch z),I.ok.frames,I.ok.stk,I.ok.exf,I.ok.bs,I.ok.bsz,I.ok.noex,I.ok.exfs,I.ok.funs,I.ok.frf⟩,I.os,I.bare,I.base,I.loc,I.cell,I.free,I.freeC,I.pin,I.hok,I.len⟩
theorem Inv.unheld{a:Addr}(ok:X.Ok)(I:Inv (X.held a) pins σ H s):Inv X pins σ H s:=⟨ok,I.os,I.bare,I.base,I.loc,I.cell,I.free,I.freeC,I.pin,I.hok,I.len⟩
theorem Inv.track{a:Addr}{u:HO}{σ2:St}{H2:Hp}{s2:Ab}(I:Inv X pins σ H s)(I2:Inv X pins σ2 H2 s2)(hex:X.ex=[])(hn:H a=none)(h2:s2.heap.get? a=none)(new:ObjOk X.prog X.w (upd H a u) s.heap a u):Inv X pins σ (upd H a u) s:=by
 have na:∀b v,s2.heap.get? b=some v->b≠a:=λb v q z=>by rw[z,h2]at q;cases q
 have n0:∀b v,X.s₀.heap.get? b=some v->b≠a:=λb v q=>by obtain⟨x,hx⟩:=I2.base.there b v q (by rw[hex];simp);exact na b x hx
 have nH:∀b v,H b=some v->b≠a:=λb v q z=>by rw[z,hn]at q;cases q
 have nL:X.env.locals≠a:=by obtain⟨m,⟨v,_,_,q,_⟩,_⟩:=I2.loc;exact na _ v q
 have B:=I.base;refine⟨I.ok,I.os,I.bare,⟨B.keep,B.slot,λb v q z hx=>?_,B.there,λb xs q=>?_,λb v w q=>?_,λb ps q=>?_⟩,I.loc,I.cell,?_,λx c q=>?_,λp hp=>?_,λb v q=>?_,I.len⟩
 .rw[zam (n0 b v q)];exact B.free b v q z hx
 .have:=B.tups b xs q;rw[zam (nH _ _ this)];exact this
 .have:=B.frzs b v w q;rw[zam (nH _ _ this)];exact this
 .obtain⟨more,this⟩:=B.tbls b ps q;exact⟨more,by rw[zam (nH _ _ this)];exact this⟩
 .rw[zam nL];exact I.free
 .obtain⟨_,v,hv,_⟩:=I2.cell x c q;rw[zam (na c v hv)];exact I.freeC x c q
 .obtain⟨q1,q2,q3⟩:=I.pin p hp;refine⟨q1,?_,q3⟩;rw[zam (na _ _ (I2.pin p hp).1)];exact q2
 .by_cases hb:b=a
  .subst hb;rw[zaa]at q;cases q;exact new
  .rw[zam hb]at q;exact (I.hok b v q).stay (λ_ _ _ r=>r) (λc r=>by rw[zam (nH _ _ r)];exact r) λc xs r=>by rw[zam (nH _ _ r)];exact r
theorem zhV{M:Db}{A:Aw}{Ex:Value -> Ab -> Prop}{i:Nat}{n:Str}{pos:Pos}{Q:Unit -> Ab -> Prop}(I:Inv X pins σ H s)(hN:X.N.Nodup)(hi:X.N[i]? = some n)(hl:X.env.scope.names.lookup n=some .local)
  (h:∀s',Inv X pins (σ.set i none) H s'->Q () s'):Aq M A (do bindName X.env n .none;unbindBehindTheSuite X.env n pos) Q Ex s:=by
 obtain⟨m,hn,hv⟩:=id I.loc;have hp:(X.env.scope.kind == .class || (X.env.scope.kind == .module && X.env.locals != X.env.globals))=false:=by rw[I.ok.kind];rfl
 refine wpAny_nameGoes_keeps hl hn hp λh' v hn' hs=>?_
 have ab:∀b u,X.s₀.heap.get? b=some u->b≠X.env.locals:=λb u q=>AS (AE (Ao q) I.ok.above)
 have cne:=I.cne;refine h _ ⟨I.ok,I.os,I.bare,⟨λb u q z hb hx=>(hs.2 b (ab b u q)).trans (I.base.keep b u q z hb hx),λb u q z hb hx=>?_,I.base.free,λb u q hx=>?_,I.base.tups,I.base.frzs,I.base.tbls⟩,⟨_,hn',λj y v' e1 e2 e3=>?_⟩,λy c q=>?_,I.free,I.freeC,λp hp=>?_,λb u q=>?_,by simpa using I.len⟩
 .obtain⟨x,hx⟩:=I.base.slot b u q z hb hx;exact⟨x,(hs.2 b (ab b u q)).trans hx⟩
 .obtain⟨x,hx⟩:=I.base.there b u q hx;exact⟨x,(hs.2 b (ab b u q)).trans hx⟩
 .have hj:j ≠ i := by
   rintro rfl;have hz:j<σ.length:=by rw[I.len];exact (Aj.mp hi).1
   rw[List.getElem?_set_self hz]at e2
   cases e2
  rw[List.getElem?_set_ne (BJ hj)]at e2;obtain⟨u,r,q⟩:=hv j y v' e1 e2 e3;refine⟨u,r,?_⟩;rcases q with⟨k,q⟩ |⟨k,c,q,z⟩
  .have:y≠n:=λz=>hj (zed hN e1 (z ▸ hi))
   exact .inl ⟨k,by simp[this,q]⟩
  .exact .inr ⟨k,c,q,z.sameBut hs (cne y c q)⟩
 .obtain⟨x,hx⟩:=I.cell y c q;exact⟨x,hx.sameBut hs (cne y c q)⟩
 .obtain⟨q1,q2,q3,q4,q5⟩:=I.pin p hp;exact⟨(hs.2 p.1 q3).trans q1,q2,q3,q4,q5⟩
 .refine (I.hok b u q).stay (λc v hc r=>(hs.2 c ?_).trans r) (λ_ r=>r) λ_ _ r=>r
  rintro rfl;rcases hc with rfl |hc
  .rw[I.free]at q;cases q
  .rw[I.free]at hc;cases hc
end
section
variable {X:Cx}
end
section
variable {prog:Am}{w:AB}{A:Aw}{E:Value->Ab->Prop}{s:Ab}{K:W.Frag}{a D:Addr}{u:Obj}{od:Option Obj}
theorem zjm {M:Db}{nv:Value}{Q:Unit->Ab->Prop}(L:W.Looks M s.heap (isInstance (.ref a) (.type "BaseException")) true) (h:Q () s):Aq M A (checkBuiltinCall "BaseException.__getattribute__" ⟨[.ref a,nv],[]⟩) Q E s:=by
 have k1:builtinKind "BaseException.__getattribute__" = some .slot:=by decide +kernel
 have k2:splitId "BaseException.__getattribute__" = some ("BaseException","__getattribute__"):=by decide +kernel
 have k3:=PySem.F.args_bexc_ga (.ref a) nv;obtain⟨hh,g,d,t,os⟩:=s;simp only[checkBuiltinCall,k1,k2];refine Ac (L.at ?_)
 repeat (first |assumption |wp_step)
theorem ziz (X:K.In s.heap) (I:CU s.heap a u D od) (hb:W.subIn K (.ref D) (.type "BaseException")=some true){nv:Value}{R:Result -> Ab -> Prop}
  (h:Aq (Ap prog w) A.in1 (Builtin.«object.__getattribute__» ⟨[.ref a,nv],[]⟩) (λf s'=>match f with |.done r=>R (.ok r) s' |_=>False) (λe s'=>R (.error e) s') s) :
  CC (Ap prog w) A (.call (.builtin "BaseException.__getattribute__") ⟨[.ref a,nv],[]⟩) R s:=by
 refine codeAny_call_builtin PySem.F.attr_ValueError.ga.plain PySem.F.entry_bexc_ga (zjm (I.type.andThen (W.looks_subIn X hb)) (BR h (λf s' z=>?_) λ_ _ z=>z))
 cases f with
 |done r=>exact z
 |again c=>exact z.elim
theorem zjl (X:K.In s.heap) (I:CU s.heap a u D od) (hf:W.findObj K D od "__class__" = some (.bind (.builtin "getset_descriptor.__get__") (.builtin "object.__class__"))) (hm:W.mroIn K D (.type "object")=some true){tk:Tok}{Q:Fin -> Ab -> Prop}
  (h:Q (.done (.ret (.ref D))) s):Aq (Ap prog w) A (Builtin.«object.__getattribute__» ⟨[.ref a,.str "__class__" tk],[]⟩) Q E s:=by
 have L0:=I.type (M:=Ap prog w);have L1:=W.looks_find (M:=Ap prog w) X I hf;refine Ac (As (Ac (As (Ac (L0.here (Ac (L1.here ?_)))))));show Aq _ _ (holding [Value.builtin "object.__class__"] (call (.builtin "getset_descriptor.__get__") [.builtin "object.__class__",.ref a,.ref D]) >>= ret) _ _ _;exact Ac (Bw (wpAny_call (W.class_get X I hm (As h))))
theorem ziA (X:K.In s.heap) (I:CU s.heap a u D od) (hga:Bl K (.ref D) "__getattribute__" = some (some (.builtin "BaseException.__getattribute__"))) (hgb:Bl K (.ref D) "__getattr__" = some none)
  (hb:W.subIn K (.ref D) (.type "BaseException")=some true) (hf:W.findObj K D od "__class__" = some (.bind (.builtin "getset_descriptor.__get__") (.builtin "object.__class__"))) (hm:W.mroIn K D (.type "object")=some true) {Q:Option Value->Ab->Prop}
  (h:Q (some (.ref D)) { s with toks:=s.toks+1 }):Aq (Ap prog w) A (getAttr? (.ref a) "__class__") Q E s:=by
 obtain⟨hh,g,d,t,os⟩:=s;have L0:=I.type (M:=Ap prog w);have L1:=W.looks_findIn (M:=Ap prog w) X hga;have L2:=W.looks_findIn (M:=Ap prog w) X hgb;unfold getAttr? getAttrBy? getAttrBy;refine Ac (wpAny_mkText (Ac (wpAny_attempt (Bw (Ac (L0.at (Ac (L1.at ?_))))))));show Aq _ _ (getAttrByItsOwn (.ref a) _ (.ref D) (.builtin "BaseException.__getattribute__") false false) _ _ _;unfold getAttrByItsOwn;refine Ac (show Aq _ _ (typeLookup (.ref D) "__getattr__") _ _ _ from L2.at ?_);refine Ac (wpAny_attempt (Bw ?_));show Aq _ _ (boundAndCalled (.builtin "BaseException.__getattribute__") (.ref a) _) _ _ _;unfold boundAndCalled;refine Ac (Cd (PySem.F.attr_ValueError.ga.bind _) ?_);refine wpAny_call (ziz (s:=⟨hh,g,d,t+1,os⟩) X I hb (zjl (s:=⟨hh,g,d,t+1,os⟩) X I hf hm ?_));exact W.handed_on rfl (As h)
end
structure ExcC (K:W.Frag) (D:Addr):Prop where
 hga:Bl K (.ref D) "__getattribute__" = some (some (.builtin "BaseException.__getattribute__"))
 hgb:Bl K (.ref D) "__getattr__" = some none
 hb:W.subIn K (.ref D) (.type "BaseException")=some true
 hd:W.hasDictIn K D=true
 ha:Bl K (.ref D) "__class__" = some (some (.builtin "object.__class__"))
 hn:W.specialIn K (.builtin "object.__class__") "__get__" = some (some (.builtin "getset_descriptor.__get__"))
 ht:W.takesIn K (.builtin "object.__class__")=some true
 hm:W.mroIn K D (.type "object")=some true
noncomputable def ExcAt(a D:Addr)(h:Heap):Prop:=∃u,h.get? a=some u/\u.cls=.ref D/\u.dict=none/\∃vs,u.data=.fields vs
theorem zhY{K:W.Frag}{a D:Addr}(C:ExcC K D):W.KitX K (.ref a) (.ref D) (ExcAt a D) where
 ty:=λM h _ ⟨u,hu,hc,_⟩=>hc ▸ (W.Looks.ld hu).andThen .now
 it:=λM h X _=>by
  obtain⟨cd,hc,_⟩:=W.any_some C.hd;unfold W.clsIn at hc;split at hc
  .rename_i ho
   intro A' Q' E' s' k q;unfold isType loadHead;exact Ac (wpAny_loadPart (k _ _ (X _ _ ho)) (As q))
  .cases hc
 ne:=λh tp dd its n sl X htp=>by
  obtain⟨cd,hc,_⟩:=W.any_some C.hd;refine AN.mpr λq=>?_
  cases Value.ref.inj (beq_iff_eq.mp q)
  unfold W.clsIn at hc;split at hc
  .rename_i ho
   cases (X _ _ ho).symm.trans htp
  .cases hc
 ca:=λ{prog w A E Q s} X p k=>by
  obtain⟨u,hu,hc,hd,vs,hv⟩:=p;have I:CU s.heap a u D none:=⟨hu,hc,by unfold W.notCls;rw[hv],by rw[hd];exact trivial⟩
  have hf:W.findObj K D none "__class__" = some (.bind (.builtin "getset_descriptor.__get__") (.builtin "object.__class__")):=by obtain⟨cd,q,_⟩:=W.any_some C.hd;have e1:=C.ha;have e2:=C.hn;have e3:=C.ht;simp[W.findObj,q,e1,e2,e3]
  exact ziA X I C.hga C.hgb C.hb hf C.hm k
theorem PS.nox{X:Cx}{st:Stmt}{t:TS}(h:PS X.nox st t):PS X st t:=λpins s σ H D I hw=>BR (h pins s σ H D (I.wish _) hw) (λ_ _ q=>q.unwish) λ_ _ z=>Bj z
section
variable {P:Am}{w:AB}{K:W.Frag}{mg:Str->Option Value}{base:Heap}
structure FnX (P:Am) (w:AB) (K:W.Frag) (mg:Str->Option Value) (base:Heap) (k:Nat) (x:Str) (ps:List Str) (sp:Sp) where
 f:Addr
 fd:A5
 ok:FnOk P w K mg base (CX1 P w) k f fd ps sp
 m:mg x=some (.ref f)
 kp:Cv K (.ref f)=true
 b:Binds K fd ps []
noncomputable def Df.fnX{k:Nat}{x:Str}{st:Stmt}{ps:List Str}{sp:Sp}(d:Df K mg x st ps)(h:FnOk P w K mg base (CX1 P w) k d.f d.fd ps sp):FnX P w K mg base k x ps sp:=⟨d.f,d.fd,h,d.m,d.F.kp,d.b⟩
theorem Fun.okX{x qual:Str}{st:Stmt}{f:Addr}{fd:A5}{N ps:List Str}{k:Nat}{sp:Sp}(F:Fun K x qual st f fd)(S:FnScope N ps (zae st))(len:∀vs H Q E, sp vs H Q E -> vs.length=ps.length)
  (hb:∀(cdv:Value) (A:Aw) (outer:List Env) (s:Ab) (H:Hp) (vs:List V) (Q:VK) (E:XK),Room k (A.deeper (envOfC qual (zae st) s.heap.objs.size f cdv))->sp vs H Q E ->
   ∃t,PSs (cxOf (CX1 P w) P w K mg base N qual (zae st) f cdv A outer s H E) (zaQ st) t/\t { nx:=λ_ H'=>Q .non H',rt:=Q } (start N vs) H):FnOk P w K mg base (CX1 P w) (k+1) f fd ps sp:=by
 obtain⟨oc,od,kV,doc,pm,an,cdv,ct,osl,rfl,lk,hcd⟩:=F.ex;exact fn_of lk hcd S len λA outer s H vs Q E hr hsp=>hb cdv A outer s H vs Q E hr hsp
end
section
variable {X:Cx}{k j:Nat}{x:Str}{ps:List Str}{sp:Sp}{E:XK}{p pos:Pos}{e:Expr}{es:List Expr}{t:TA}
theorem pCX (g:FnX X.prog X.w X.K X.mg X.base k x ps sp) (hr:Room j X.A) (hx:zcU (CX1 X.prog X.w) X E) (ha:PA X (e :: es) t) (hj:k <= j := by decide) (hg:Gl X x := by rfl) (hdb:(x == ("__debug__" : Str))=false := by decide)
  (he:AA (e::es) X.env=(false,eval e X.env)::AA es X.env:=by rfl) (hpl:(CB pos (AA es X.env)).any (·.1)=false:=by rfl):PE X (.Call (.Name x p) (e::es) [] pos) (tCall sp [] E t) :=
 zgY g.ok (hr.mono hj) hg g.m g.kp g.b .nil hx ha hdb he hpl
end
noncomputable def ItrD(lo:Int)(n:Nat):It:=⟨λi _=>i<n,λi H x H'=>H'=H/\x=.int (lo-i),λi _=>n<=i⟩
theorem zev{P:Am}{w:AB}{K:W.Frag}{tg:Expr}(it:Addr)(lo:Int)(n:Nat):Turn P w K tg (ItrD lo n) [it] it (λi h=>IsRangeIter h it (lo+(i:Nat)*(-1)) ((n:Int)-(i:Nat)) (-1)) where
 mem:=by simp
 obj:=λi h st b hb=>by
  cases (show b=it by simpa using hb)
  exact⟨_,st,λv z=>by cases (show Data.fields _=Data.cell v from z)⟩
 keep:=λi h h' st k=>k it (by simp) _ st
 item:=by
  intro X hP hw hK hc i pins s σ H E I hf st hg;subst hP hw hK;obtain⟨f0,f1,f2,f3,f4,f5⟩:=hf it (by simp);refine (Walks.range (prog:=X.prog) (w:=X.w) (I.ok.hd hc) it lo (-1) n).item i s _ _ hg st λv h' tk hv st' kk=>?_
  obtain⟨t,rfl⟩:=hv;have I1:Inv X pins σ H { s with heap:=h',toks:=tk }:=I.turned (λb o hb e=>kk b o (by simpa using hb) e) f0 f1 f3 f4 f5;exact⟨_,rfl,go_of (s:={ s with heap:=h',toks:=tk }) (n:="range_iterator") st' rfl rfl (by decide) ⟨.int (lo-i),H,I1,⟨t,by rw[Int.mul_neg,Int.mul_one];rfl⟩,⟨rfl,rfl⟩,st',λb hb=>(hf b hb).1⟩⟩
 done:=by intro X hP hw hK hc i pins s σ H E I hf st hg;subst hP hw hK;obtain⟨f0,f1,f2,f3,f4,f5⟩:=hf it (by simp);exact wpAny_pyNext_range_end (I.ok.hd hc) st (by have:n<=i:=hg;lia) λh' eb=>⟨rfl,I.turned (t':=s.toks) (λb o hb e=>eb b o hb e) f0 f1 f3 f4 f5⟩
 self:=λ_ _ _ _ _ st h=>wpAny_pyIter_rangeiter st h
theorem zdE{P:Am}{w:AB}{K:W.Frag}{tg:Expr}(it:Addr)(lo:Int)(n:Nat):Turn P w K tg (ItrD lo n) [it] it (λi h=>IsLongIter h it (lo+(i:Nat)*(-1)) ((n:Int)-(i:Nat)) (-1)) where
 mem:=by simp
 obj:=λi h st b hb=>by
  cases (show b=it by simpa using hb)
  exact⟨_,st,λv z=>by cases (show Data.fields _=Data.cell v from z)⟩
 keep:=λi h h' st k=>k it (by simp) _ st
 item:=by
  intro X hP hw hK hc i pins s σ H E I hf st hg;subst hP hw hK;obtain⟨f0,f1,f2,f3,f4,f5⟩:=hf it (by simp);refine (Walks.longrange (prog:=X.prog) (w:=X.w) (I.ok.hd hc) it lo (-1) n).item i s _ _ hg st λv h' tk hv st' kk=>?_
  obtain⟨t,rfl⟩:=hv;have I1:Inv X pins σ H { s with heap:=h',toks:=tk }:=I.turned (λb o hb e=>kk b o (by simpa using hb) e) f0 f1 f3 f4 f5;exact⟨_,rfl,go_of (s:={ s with heap:=h',toks:=tk }) (n:="longrange_iterator") st' rfl rfl (by decide) ⟨.int (lo-i),H,I1,⟨t,by rw[Int.mul_neg,Int.mul_one];rfl⟩,⟨rfl,rfl⟩,st',λb hb=>(hf b hb).1⟩⟩
 done:=by intro X hP hw hK hc i pins s σ H E I hf st hg;subst hP hw hK;obtain⟨f0,f1,f2,f3,f4,f5⟩:=hf it (by simp);exact wpAny_pyNext_long_end (I.ok.hd hc) st (by have:n<=i:=hg;lia) λh' eb=>⟨rfl,I.turned (t':=s.toks) (λb o hb e=>eb b o hb e) f0 f1 f3 f4 f5⟩
 self:=λ_ _ _ _ _ st h=>wpAny_pyIter_longiter st h
theorem zgI(a b:Int):(((a-b).toNat:Nat):Int)=Bq a b (-1):=by unfold Bq;rw[if_neg (by decide)];rw[show -(-1:Int)=1 by decide,Int.ediv_one];split <;> lia
theorem ziL(a b:Int):(((b-a).toNat:Nat):Int)=Bq a b 1:=by unfold Bq;rw[if_pos (by decide)];rw[Int.ediv_one];split <;> lia
section
variable {X:Cx}{tg:Expr}{pins:List (Addr×Obj)}{σ:St}{H:Hp}{s:Ab}{R:It->Hp->Prop}{E:Value->Ab->Prop}
theorem zh6 {lo:Int}{n:Nat}{cl:String}(I:Inv X pins σ H s) (hc:cl = "range_iterator" ∨ cl = "longrange_iterator") (q:R (ItrD lo n) H) :
  Aq (Ap X.prog X.w) X.A (pyIter (.ref s.heap.objs.size)) (PIE X pins σ tg R) E { s with heap:=s.heap.push { cls:=.type cl,data:=.fields #[By lo,By n,By (-1)] } }:=by
 have I1:Inv X pins σ H { s with heap:=s.heap.push { cls:=.type cl,data:=.fields #[By lo,By n,By (-1)] } }:=I.kept (t':=s.toks) λb o e=>Ag _ e
 have st:(s.heap.push { cls:=.type cl,data:=.fields #[By lo,By n,By (-1)] }).get? s.heap.objs.size=some { cls:=.type cl,data:=.fields #[By lo,By n,By (-1)] }:=Ar _ rfl
 have fp:∀b∈[s.heap.objs.size],FpOk X pins H b:=λb hb=>by
  cases (show b=s.heap.objs.size by simpa using hb)
  have:=I.fpOk (Ai _) (I.hok.fresh (Ai _));exact this
 rcases hc with rfl |rfl
 .have z:IsRangeIter (s.heap.push { cls := .type "range_iterator", data := .fields #[By lo, By n, By (-1)] }) s.heap.objs.size (lo + ((0:Nat):Int) * (-1)) ((n:Int)-((0:Nat):Int)) (-1) := by rw[show lo+((0:Nat):Int)*(-1)=lo by simp,show (n:Int)-((0:Nat):Int)=n by simp];exact st
  exact wpAny_pyIter_rangeiter z ⟨_,_,_,_,H,rfl,I1,zev _ lo n,z,fp,q⟩
 .have z:IsLongIter (s.heap.push { cls := .type "longrange_iterator", data := .fields #[By lo, By n, By (-1)] }) s.heap.objs.size (lo + ((0:Nat):Int) * (-1)) ((n:Int)-((0:Nat):Int)) (-1) := by rw[show lo+((0:Nat):Int)*(-1)=lo by simp,show (n:Int)-((0:Nat):Int)=n by simp];exact st
  exact wpAny_pyIter_longiter z ⟨_,_,_,_,H,rfl,I1,zdE _ lo n,z,fp,q⟩
theorem zf4{lo hi:Int}{t u v:Tok}(I:Inv X pins σ H s)(q:R (ItrD lo (lo-hi).toNat) H) :
  Aq (Ap X.prog X.w) X.A (pyIter (.ref s.heap.objs.size)) (PIE X pins σ tg R) E { s with heap:=s.heap.push { cls:=.type "range",data:=.fields #[.int lo t,.int hi u,.int (-1) v] } }:=by
 have I1:Inv X pins σ H { s with heap:=s.heap.push { cls:=.type "range",data:=.fields #[.int lo t,.int hi u,.int (-1) v] } }:=I.kept (t':=s.toks) λb o e=>Ag _ e
 have I2:=λ(o:Obj)=>(I1.kept (t':=s.toks) (h':=(s.heap.push { cls:=.type "range",data:=.fields #[.int lo t,.int hi u,.int (-1) v] }).push o) λb o e=>Ag _ e)
 have fp:∀b∈[(s.heap.push { cls:=.type "range",data:=.fields #[.int lo t,.int hi u,.int (-1) v] }).objs.size],FpOk X pins H b:=λb hb=>by
  cases (show b=(s.heap.push { cls:=.type "range",data:=.fields #[.int lo t,.int hi u,.int (-1) v] }).objs.size by simpa using hb)
  exact I1.fpOk (Ai _) (I1.hok.fresh (Ai _))
 have e2:lo+((0:Nat):Int)*(-1)=lo:=by simp
 have e3:(((lo-hi).toNat:Nat):Int)-((0:Nat):Int)=Bq lo hi (-1):=by rw[<- zgI];simp
 cases hs:Builtin.Range.small lo hi (-1) with
 |true =>
  refine wpAny_pyIter_range (IsRange.new ..) hs ⟨_,_,_,_,H,rfl,I2 _,zev _ lo (lo-hi).toNat,?_,fp,q⟩;show IsRangeIter _ _ _ _ _;rw[e2,e3];exact Ar _ rfl
 |false =>
  refine wpAny_pyIter_longrange (IsRange.new ..) hs ⟨_,_,_,_,H,rfl,I2 _,zdE _ lo (lo-hi).toNat,?_,fp,q⟩;show IsLongIter _ _ _ _ _;rw[e2,e3];exact Ar _ rfl
end
section
variable {X:Cx}{tg:Expr}
noncomputable def iDown(ta:TA):TI:=λσ H R=>ta σ H λvs H1=>∃i j:Int,vs=[.int i,.int j,.int (-1)]/\R (ItrD i (i-j).toNat) H1
theorem zi1 {a b c:Expr}{ta:TA}{p pos:Pos}(hg:Gl X "range") (hm:X.mg "range" = none) (ha:PA X [a, b, c] ta) (hs:AA [a, b, c] X.env = [(false, eval a X.env), (false, eval b X.env), (false, eval c X.env)] := by rfl) (hs2:AA [b, c] X.env = [(false, eval b X.env), (false, eval c X.env)] := by rfl) :
  PI X tg (.Call (.Name "range" p) [a,b,c] [] pos) (iDown ta):=by
 intro pins s σ H R I h;refine Call_ (zbW I hg hm boot_range (AV (thn (ha pos pins s σ H _ I h) λus s1 ⟨vs,H1,I1,r1,q1⟩=>?_) (by rw[hs,hs2]) (by rw[hs2];rfl)));obtain⟨i,j,e,q⟩:=q1;subst e
 cases r1 with
 |cons r rr =>
  cases rr with
  |cons r' rr =>
   cases rr with
   |cons r'' rr =>
    cases rr
    obtain⟨t,rfl⟩:=r;obtain⟨t',rfl⟩:=r';obtain⟨t'',rfl⟩:=r'';exact call_range_3 (by decide) (zf4 I1 q) (.inl (PyProof.noPylong_small (by decide)))
end
noncomputable def rcl (lo hi:Int):String:=if (Bm lo && Bm hi && Bm 1 && Bm (-1) && Bm (lo-1) && Bm ((hi-lo).toNat:Nat))=true then "range_iterator" else "longrange_iterator"
theorem zin (lo hi:Int):rcl lo hi = "range_iterator" ∨ rcl lo hi = "longrange_iterator":=by
 unfold rcl;split
 .exact .inl rfl
 .exact .inr rfl
theorem ziS (lo hi:Int):isSubtype (.type (rcl lo hi)) (.type "reversed")=pure false:=by rcases zin lo hi with e |e <;> rw[e,isSubtype_type] <;> kernel_rfl
noncomputable def rObj(lo hi:Int):Obj:={ cls:=.type (rcl lo hi),data:=.fields #[By (hi-1),By ((hi-lo).toNat:Nat),By (-1)] }
section
variable {prog:Am}{w:AB}{A:Aw}{E:Value->Ab->Prop}{s:Ab}{l:Addr}{lo hi:Int}{t u v:Tok}{Q:Value->Ab->Prop}
theorem ziQ (hl:s.heap.get? l=some { cls := .type "range", data := .fields #[.int lo t, .int hi u, .int 1 v] }) (h:Q (.ref s.heap.objs.size) { s with heap := s.heap.push (rObj lo hi) }) (hle:lo <= hi) :
  Aq (Ap prog w) A (call (.builtin "range.__reversed__") [.ref l]) Q E s:=by
 refine wpAny_call_entry F.slot_range_reversed ⟨_,hl,rfl⟩ F.entry_range_reversed ?_ (F.args_range_reversed_1 _)
 unfold Builtin.«range.__reversed__»;refine Ac (Cd (a:=AM l) rfl ?_);unfold Builtin.Range.rangeFields;refine Ac (Ac (BO hl rfl (x:=.int lo t) rfl ?_));refine Ac (Cd (a:=some lo) rfl ?_);refine Ac (BO hl rfl (x:=.int hi u) rfl ?_);refine Ac (Cd (a:=some hi) rfl ?_);refine Ac (BO hl rfl (x:=.int 1 v) rfl ?_);refine Ac (Cd (a:=some 1) rfl ?_);dsimp only;refine As ?_
 dsimp only;rw[<- ziL,show lo+((((hi-lo).toNat:Nat):Int)-1)*1=hi-1 by lia]
 have go:Aq (Ap prog w) A.in1 (newFields (rcl lo hi) [By (hi-1),By ((hi-lo).toNat:Nat),By (-1)] >>= λx=>ret x) (λfin s'=>∃v,fin=Fin.done (Flow.ret v)/\Q v s') E s:=by unfold newFields;exact Ac (CQ (As ⟨_,rfl,h⟩))
 split
 .exact Ac (wpAny_rule go)
 .exact go
theorem ziR (hl:s.heap.get? l=some { cls := .type "range", data := .fields #[.int lo t, .int hi u, .int 1 v] }) (h:Q (.ref s.heap.objs.size) { s with heap := s.heap.push (rObj lo hi) }) (hle:lo <= hi) :
  CC (Ap prog w) A (.call (.builtin "reversed.__new__") ⟨[.type "reversed",.ref l],[]⟩) (wants Q E) s:=by
 refine codeAny_of_tree ?_
 show Aq _ A.in1 (checkBuiltinCall "reversed.__new__" ⟨[.type "reversed",.ref l],[]⟩ >>= λ_=>again (.builtin "reversed.__new__" ⟨[.type "reversed",.ref l],[]⟩)) _ _ s;refine Ac (Cd (F.newCall_reversed_1 _) (As ⟨plainId_quiet F.plain_reversed_new _,codeAny_builtin F.entry_reversed_new ?_⟩));rw[Around.under_plainId F.plain_reversed_new _];unfold Builtin.«reversed.__new__»;refine Ac (Cd (newClass_reversed _) ?_);refine Ac (Cd (a:=()) (by first |rfl |kernel_rfl) (Ac (Cd (a:=()) (by first |rfl |kernel_rfl) ?_)));refine Ac (wpAny_specialOf ⟨_,hl,rfl⟩ F.slot_range_reversed.lookup ?_);refine Ac (Cd (F.slot_range_reversed.bind _) ?_);dsimp only;rw[if_neg (show ¬ ((Value.builtin "range.__reversed__" == BQ)=true) from AI)];refine Ac (wpAny_rule ?_);refine Ac (m:=runValue (.call (.builtin "range.__reversed__") ⟨[.ref l],[]⟩)) (show Aq _ _ (call (.builtin "range.__reversed__") [.ref l]) _ _ _ from ziQ hl ?_ hle);exact As h
theorem zhr (hl:s.heap.get? l=some { cls := .type "range", data := .fields #[.int lo t, .int hi u, .int 1 v] }) (h:Q (.ref s.heap.objs.size) { s with heap := s.heap.push (rObj lo hi) }) (hle:lo <= hi) :
  Aq (Ap prog w) A (call (.type "reversed") [.ref l]) Q E s:=by
 refine callType_other (U:=rcl lo hi) (Q₁:=λobj s₁=>obj=.ref s.heap.objs.size/\s₁={ s with heap:=s.heap.push (rObj lo hi) }) (by decide +kernel) F.create_reversed ⟨_,_,F.mro_reversed⟩ F.made_reversed (ziS lo hi) (F.typeCall_reversed_1 _) (ziR hl ⟨rfl,rfl⟩ hle) ?_
 rintro obj s₁ ⟨rfl,rfl⟩;exact⟨⟨_,Ar _ rfl,rfl⟩,h⟩
end
section
variable {X:Cx}{tg:Expr}
noncomputable def iRev(ta:TA):TI:=λσ H R=>ta σ H λvs H1=>∃i j:Int,vs=[.int i,.int j]/\i<=j/\R (ItrD (j-1) (j-i).toNat) H1
theorem ziZ {a b:Expr}{ta:TA}{p p2 pos pos2:Pos}(hgr:Gl X "reversed") (hmr:X.mg "reversed" = none) (hg:Gl X "range") (hm:X.mg "range" = none) (ha:PA X [a, b] ta) (hs:AA [a, b] X.env = [(false, eval a X.env), (false, eval b X.env)] := by rfl)
  (hs2:AA [b] X.env=[(false,eval b X.env)]:=by rfl) (hs3:AA [Expr.Call (.Name "range" p2) [a,b] [] pos2] X.env=(false,eval (.Call (.Name "range" p2) [a,b] [] pos2) X.env)::AA [] X.env:=by rfl) :
  PI X tg (.Call (.Name "reversed" p) [.Call (.Name "range" p2) [a,b] [] pos2] [] pos) (iRev ta):=by
 intro pins s σ H R I h;refine Call_ (zbW I hgr hmr PyProof.Rows.boot_reversed (AV (PyProof.Rows.spliced_more ?_ hs3) hs3 rfl));refine Call_ (zbW I hg hm boot_range (AV (thn (ha pos2 pins s σ H _ I h) λus s1 ⟨vs,H1,I1,r1,q1⟩=>?_) (by rw[hs,hs2]) (by rw[hs2];rfl)));obtain⟨i,j,e,hle,q⟩:=q1;subst e
 cases r1 with
 |cons r rr =>
  cases rr with
  |cons r' rr =>
   cases rr
   obtain⟨t,rfl⟩:=r;obtain⟨t',rfl⟩:=r';refine call_range_2 (PyProof.Rows.spliced_none (zhr (Ar _ rfl) ?_ hle));exact zh6 (s:={ s1 with heap:=s1.heap.push { cls:=.type "range",data:=.fields #[.int i t,.int j t',.int 1 s1.toks] },toks:=s1.toks+1 }) (I1.kept (t':=s1.toks+1) λb o e=>Ag _ e) (zin i j) q
end
theorem zfU{lo:Int}{n:Nat}{g:TG}{tb:TS}{D:Ends}{σ : St}{H:Hp}(Pv:Nat -> St -> Hp -> Prop)(h0:Pv 0 σ H)
  (hs:∀i σ H,i<n->Pv i σ H->g (.int (lo-i)) σ H λσ2 H2=>tb { D with nx:=Pv (i+1),ct:=Pv (i+1),bk:=D.nx } σ2 H2) (hd:∀ σ H,Pv n σ H->D.nx σ H) :
  ∃W:Nat->Nat->St->Hp->Prop,(∃m,W 0 m σ H)/\∀i m σ H,W i m σ H ->
   ((ItrD lo n).stop i H/\D.nx σ H)∨((ItrD lo n).go i H/\∃N:St->Hp->Prop,(∀ σ' H',N σ' H'->∃m',m'<m/\W (i+1) m' σ' H')/\∀x H',(ItrD lo n).yld i H x H'->g x σ H' λσ2 H2=>tb { D with nx:=N,ct:=N,bk:=D.nx } σ2 H2):=by
 refine⟨λi m σ H=>m=n-i/\i<=n/\Pv i σ H,⟨n,by simp,A1 _,h0⟩,?_⟩;rintro i m σ H ⟨rfl,hi,p⟩;rcases B8 i n with hlt |hge
 .refine .inr ⟨hlt,Pv (i+1),λσ' H' p'=>⟨n-(i+1),by lia,rfl,hlt,p'⟩,?_⟩;rintro x H' ⟨rfl,rfl⟩;exact hs i σ _ hlt p
 .obtain rfl:i=n:=by lia
  exact .inl ⟨hge,hd σ H p⟩
end L2
namespace RP
noncomputable def tt(C:Cell->Bool)(e:Edge):Int:=match stepB C e with
 |none=>1
 |some s=>if s % 2=1 then -1 else 0
noncomputable def cr(x1 y1 x2 y2:Int):Int:=if y1=-1/\y2=0/\0<x2 then 1 else if y1=0/\y2=-1/\0<x1 then -1 else 0
section
variable (U V:Nat->Int)
noncomputable def hH(i j:Nat):Int:=cr (U j-U i) (V j-V i) (U (j+1)-U i) (V (j+1)-V i)
noncomputable def gG(i j:Nat):Int:=cr (U j-U i) (V j-V i) (U j-U (i+1)) (V j-V (i+1))
noncomputable def sE:Nat->Int
 | 0=>0
 |i+1=>sE i+hH U V i (i+1)+gG U V i (i+2)
variable {U V}
variable {n:Nat}
end
noncomputable def it(C:Cell->Bool)(b:Edge):Nat->Edge
 | 0=>b
 |k+1=>nxt C (it C b k)
noncomputable def wW(C:Cell->Bool)(b:Edge):Nat->Int
 | 0=>b.w
 |k+1=>wW C b k+tt C (it C b k)
noncomputable def th(C:Cell->Bool)(b:Edge)(k:Nat):Int:=2*wW C b k-1+tt C (it C b k)
end RP
namespace L2
open PySem PyProof.Rows
section
variable {X:Cx}{a b e v1 v2:Expr}{es rest:List Expr}{te ta tb:TE}{pos:Pos}
noncomputable def ziT:V->List V->Hp->VK->Prop:=λx vs H Q=>∃a b,x=.str a/\vs=[.str b]/\Q (.bl (Txt.startswith a b)) H
theorem zee:MtR X "str.startswith" ziT:=by intro pins s σ H x vs v us Q I rx rv h;obtain⟨a,b,rfl,rfl,q⟩:=h;obtain⟨t,rfl⟩:=rx;obtain⟨u,rfl,t',rfl⟩:=vals1 rv;exact call_gives F.slot_str_startswith (Dl s a t) F.entry_str_startswith (F.args_str_startswith_2 _ _) (gives_str_startswith a b t t') ⟨.bl _,H,I,rfl,q⟩
noncomputable def occN(a b:Str):Nat:=(Br a b 0 a.length (a.length+1)).length
noncomputable def ziW:V->List V->Hp->VK->Prop:=λx vs H Q=>∃a b,x=.str a/\vs=[.str b]/\Q (.int (occN a b:Nat)) H
theorem zcw:MtR X "str.count" ziW:=by intro pins s σ H x vs v us Q I rx rv h;obtain⟨a,b,rfl,rfl,q⟩:=h;obtain⟨t,rfl⟩:=rx;obtain⟨u,rfl,t',rfl⟩:=vals1 rv;exact call_gives F.slot_str_count (Dl s a t) F.entry_str_count (F.args_str_count_2 _ _) (gives_str_count a b t t') ⟨.int _,H,I.tok _,⟨_,rfl⟩,q⟩
theorem zcT:CallR X (.type "int") (λxs H Q=>∃x n,xs=[.str x]/\intText? x=some n/\x.length<=640/\Q (.int n) H):=by intro pins s σ H xs us Q I r h;obtain⟨x,n,rfl,hn,hz,q⟩:=h;obtain⟨u,rfl,t,rfl⟩:=vals1 r;exact W.KIN.call_text hn hz ⟨.int _,H,I.tok _,⟨_,rfl⟩,q⟩
noncomputable def zaZ(x:Str)(n:Nat):Str:=⟨List.foldl (λa b=>a++b) #[] (Ay n x.cps)⟩
theorem zbR:SlR X (λx lo hi H Q=>∃a,x=.str a/\a.length<=sizeLine/\Q (.str (Bd a lo hi)) H):=by
 intro pins s σ H x v vl vu lo hi sl Q I rx hs pl pu h;obtain⟨a,rfl,hz,q⟩:=h;obtain⟨t,rfl⟩:=rx;refine⟨"str",_,F.slot_str_getitem.lookup,Dl s a t,?_⟩
 obtain⟨l,u,el,eu,hl,hu⟩:∃l u:Option (Int×Tok),vl=partValue l/\vu=partValue u/\l.map (·.1)=lo/\u.map (·.1)=hi:=by
  cases pl with
  |none=>cases pu with
   |none=>exact⟨none,none,rfl,rfl,rfl,rfl⟩
   |int j t'=>exact⟨none,some (j,t'),rfl,rfl,rfl,rfl⟩
  |int i t=>cases pu with
   |none=>exact⟨some (i,t),none,rfl,rfl,rfl,rfl⟩
   |int j t'=>exact⟨some (i,t),some (j,t'),rfl,rfl,rfl,rfl⟩
 subst el eu;obtain⟨o,h1,h2,h3⟩:=hs;refine wpAny_getItem_str_slice (l:=l) (u:=u) (st:=none) ⟨o,h1,h2,h3⟩ rfl ?_
 have q':=q;unfold Bd at q';unfold sliceMade slicePicked;rw[hl,hu];show (if ((1:Int) == 1 && (Builtin.Str.strSliceIndices lo hi 1 a.length).length == a.length)=true then _ else _:Made).post _ _;split
 .rename_i h
  rw[if_pos h]at q';exact⟨.str a,H,I,⟨_,rfl⟩,q'⟩
 .rename_i h
  rw[if_neg h]at q';refine⟨?_,.str _,H,I.tok _,⟨_,rfl⟩,q'⟩;have hle:=PyProof.Txt.length_slice_le a lo hi;unfold Bd at hle;rw[if_neg h]at hle;exact AK hle hz
noncomputable def zgQ:V->List V->Hp->VK->Prop:=λx vs H Q=>∃a b,x=.str a/\vs=[.str b]/\(b.length == 0)=false/\a.length+2<=sizeLine/\∀p,H p=none->Q (.ref p) (upd H p (.lst ((Af a b).map V.str)))
theorem zeq:∀{ys:List Str}(k:Nat),Vals (ys.map V.str) (strsFrom k ys)
 |[],_=>.nil
 |y::ys,k=>.cons ⟨_,rfl⟩ (zeq (k+1))
theorem zbz:MtR X "str.split" zgQ:=by
 intro pins s σ H x vs v us Q I rx rv h;obtain⟨a,b,rfl,rfl,hb,hz,q⟩:=h;obtain⟨t,rfl⟩:=rx;obtain⟨u,rfl,t',rfl⟩:=vals1 rv;have hle:=split_le a b;have q:=q s.heap.objs.size (I.hok.fresh (Ai _))
 have put:∀(its:List Value) (tk:Nat),Vals ((Af a b).map V.str) its->EP X pins σ Q (.ref s.heap.objs.size) { s with heap:=s.heap.push { cls:=.type "list",data:=.seq its.toArray },toks:=tk }:=λits tk r=>by refine⟨.ref _,_,I.laid (t':=tk) (o:=.lst ((Af a b).map V.str)) (λb ob q=>Ag _ q) (Ai _) ?_,rfl,q⟩;exact⟨by rw[Ae];lia,its,0,r,Ar _ rfl⟩
 by_cases h1:(decide (a.length<b.length) ||decide (Builtin.Str.strKind a<Builtin.Str.strKind b))=true
 .refine call_meets F.slot_str_split (Dl s a t) F.entry_str_split (F.args_str_split_2 _ _) (meets_str_split_cannot_occur a b t t' h1) ?_
  have e:Af a b=[a]:=by unfold Af;rw[if_pos h1]
  exact put [.str a t] s.toks (by rw[e];exact .cons ⟨_,rfl⟩ .nil)
 have h1:=AN.mpr h1
 by_cases h2:(Br a b 0 a.length (a.length+1)).isEmpty=true
 .refine call_meets F.slot_str_split (Dl s a t) F.entry_str_split (F.args_str_split_2 _ _) (meets_str_split_not_found a b t t' h1 hb h2) ?_
  have e:Af a b=[a]:=by unfold Af;rw[if_neg (by rw[h1];decide),if_pos h2]
  exact put [.str a t] s.toks (by rw[e];exact .cons ⟨_,rfl⟩ .nil)
 have h2:=AN.mpr h2;have e:Af a b=Builtin.Str.partsBetween a (Br a b 0 a.length (a.length+1)) b.length:=by unfold Af;rw[if_neg (by rw[h1];decide),if_neg (by rw[h2];decide)]
 rw[e]at hle;refine call_meets F.slot_str_split (Dl s a t) F.entry_str_split (F.args_str_split_2 _ _) (meets_str_split_sep a b t t' h1 hb h2 (by lia) (by lia)) ?_
 have r:=zeq (ys:=Af a b) s.toks;rw[e]at r;exact put _ _ (by rw[e];exact r)
end
end L2
namespace RP
noncomputable def wc(c:Cell)(e:Edge):Int:=if e.c.2=c.2/\c.1<px e then dy e.w else 0
noncomputable def wd(es:List Edge)(c:Cell):Int:=(es.map (wc c)).sum
inductive Rch (D:Cell->Bool) (S:List Nat) (a:Cell):Cell->Prop where
 |refl:Rch D S a a
 |step {c:Cell} {s:Nat}:Rch D S a c->s∈S->D (go c s)=true->Rch D S a (go c s)
noncomputable def S8:List Nat:=[0,1,2,3,4,5,6,7]
noncomputable abbrev no(C:Cell->Bool):Cell->Bool:=λc=>!C c
structure BoxOf (P:List Cell) (l lo r hi:Int):Prop where
 all:∀c∈P,l<c.1/\c.1<r/\lo<c.2/\c.2<hi
 bot:∃c∈P,c.2=lo+1
noncomputable def inBox(l lo r hi:Int)(c:Cell):Prop:=l<=c.1/\c.1<=r/\lo<=c.2/\c.2<=hi
structure FreeOf (D:Cell->Bool) (P:List Cell) (l lo r hi:Int):Prop where
 iff:∀c,D c=true ↔ (inBox l lo r hi c/\c ∉ P)
section
variable {C D:Cell->Bool}{b:Edge}{es:List Edge}{P:List Cell}{l lo r hi:Int}
end
noncomputable def isUp(y:Int)(e:Edge):Bool:=(e.w == 1 ||e.w == 3) && e.c.2 == y
noncomputable def upr(es:List Edge)(y:Int):List Int:=(es.filter (isUp y)).map px
end RP
namespace L2
open PySem RP
structure UD (H0 H:Hp) (a:Addr) (es:List Edge) (kvs:List (Key×V)) (B:Int->Addr):Prop where
 dict:H a=some (.dK kvs)
 new:H0 a=none
 same:Same H0 H
 len:kvs.length<=es.length
 nd:(kvs.map (·.1)).Nodup
 keys:∀k∈kvs.map (·.1),∃y,k=Sum.inl y/\upr es y≠[]
 at_:∀y,upr es y≠[]->valV kvs (.inl y)=some (.ref (B y))/\H (B y)=some (.lst ((upr es y).map V.int))/\H0 (B y)=none/\B y≠a
 inj:∀y z,upr es y≠[]->upr es z≠[]->B y=B z->y=z
 no:∀y,upr es y=[]->valV kvs (.inl y)=none
variable {H0 H:Hp}{a z:Addr}{es:List Edge}{e:Edge}{kvs:List (Key×V)}{B:Int->Addr}
end L2
namespace RP
end RP
namespace L2
open PySem RP
end L2
namespace RP
end RP
namespace L2
open PySem PySem.Spec PyProof.Rows
section
variable {prog:Am}{w:AB}{A:Aw}{E:Value->Ab->Prop}{s:Ab}
theorem zhi{e it:Addr}{i:Int}{old:Value}{G:Heap -> Prop}{Q:Option Value -> Ab -> Prop}(en:IsEnum s.heap e it i old)
  (src:∀(Q1:Value->Ab->Prop) (E1:Value->Ab->Prop),(∀h1 x,G h1->(∃o,h1.get? x=some o/\o.cls=.type "StopIteration")->E1 (.ref x) { s with heap:=h1 })->Aq (Ap prog w) A.in1 (Ci (.ref it)) Q1 E1 s)
  (k:∀h1,G h1->Q none { s with heap:=h1 }):Aq (Ap prog w) A (pyNext (.ref e)) Q E s:=by
 have ty:s.TypeIs (.ref e) "enumerate":=⟨_,en,rfl⟩;unfold pyNext;refine Ac (wpAny_attempt (wpAny_callSpecial?_slot (name:=Aa "__next__") ty B9 (wpAny_call_entry B9 ty PySem.F.entry_enumerate_next ?_ (PySem.F.args_enumerate_next_1 _))));show Aq (Ap prog w) A.in1 (field (.ref e) 2 >>= _) _ _ _;refine Ac (BO (x:=.ref it) en rfl rfl (Ac (src _ _ λh1 x g ⟨o,ho,hc⟩=>?_)));exact Ac (wpAny_isInstance (b:=true) (T:="StopIteration") ⟨o,ho,hc⟩ isSubtype_stop (As (k h1 g)))
end
section
variable {X:Cx}
noncomputable def Its(x:Str):It:=⟨λi _=>i<x.cps.size,λi H v H'=>H'=H/\∃c,x.cps[i]?=some c/\v=.str ⟨#[c]⟩,λi _=>x.cps.size<=i⟩
theorem zic{prog:Am}{w:AB}{A:Aw}(hh:A.handled=none)(I:Addr)(x:Str)(t:Tok):Walks prog w A I [I] [I] x.cps.size (SignAt x) λi h=>h.IsStrIter I (Ce x) x t i:=by
 unfold Ce;split
 .exact Walks.strAscii hh I x t
 .exact Walks.strWide hh I x t
theorem zjZ{M:Db}{A:Aw}{E:Value->Ab->Prop}{s:Ab}{tg:Expr}{it:Addr}{y:Str}{u:Tok}{Q:Unit->Ab->Prop}(hQ:Q () s):Aq M A (CI tg (.ref it) (.str y u)) Q E s:=by
 unfold CI
 cases tg <;> exact As hQ
theorem zhC{P:Am}{w:AB}{K:W.Frag}{tg:Expr}(x:Str)(t:Tok)(it:Addr):Turn P w K tg (Its x) [it] it (λi h=>i<=x.cps.size/\h.IsStrIter it (Ce x) x t i) where
 mem:=by simp
 obj:=λi h st b hb=>by
  have e:b=it:=by simpa using hb
  subst e;obtain⟨_,o,e,c,d⟩:=st;exact⟨o,e,λv z=>by rw[d]at z;cases z⟩
 keep:=λi h h' ⟨hi,o,e,r⟩ k=>⟨hi,o,k it (by simp) o e,r⟩
 item:=by
  intro X hP hw hK hc i pins s σ H E I hf st hg;subst hP hw hK;obtain⟨f0,f1,f2,f3,f4,f5⟩:=hf it (by simp);have hg:i<x.cps.size:=hg;refine (zic (prog:=X.prog) (w:=X.w) (I.ok.hd hc) it x t).item i s _ _ hg st.2 λv h' tk hv st' kk=>?_
  obtain⟨c,u,hcc,rfl⟩:=hv;have I1:Inv X pins σ H { s with heap:=h',toks:=tk }:=I.turned (λb o hb e=>kk b o (by simpa using hb) e) f0 f1 f3 f4 f5;exact⟨_,rfl,zjZ ⟨.str ⟨#[c]⟩,H,I1,⟨_,rfl⟩,⟨rfl,c,hcc,rfl⟩,⟨hg,st'⟩,λb hb=>(hf b hb).1⟩⟩
 done:=by intro X hP hw hK hc i pins s σ H E I hf st hg;subst hP hw hK;obtain⟨f0,f1,f2,f3,f4,f5⟩:=hf it (by simp);have hg:x.cps.size<=i:=hg;have e:i=x.cps.size:=Nat.le_antisymm st.1 hg;subst e;exact (zic (prog:=X.prog) (w:=X.w) (I.ok.hd hc) it x t).done s _ _ st.2 λh' tk kk=>⟨rfl,I.turned (t':=tk) (λb o hb e=>kk b o (by simpa using hb) e) f0 f1 f3 f4 f5⟩
 self:=λ_ i s _ _ st h=>by
  obtain⟨_,st⟩:=st;unfold Ce at st;split at st
  .exact wpAny_pyIter_striter_ascii st h
  .exact wpAny_pyIter_striter_wide st h
noncomputable def iStr(tl:TE):TI:=λσ H R=>tl σ H λx H1=>∃y,x=.str y/\R (Its y) H1
theorem zgW{tg l:Expr}{tl:TE}(hl:PE X l tl):PI X tg l (iStr tl):=by
 intro pins s σ H R I h;refine thn (hl pins s σ H _ I h) λv s1 ⟨x,H1,I1,r1,q1⟩=>?_
 obtain⟨y,rfl,q⟩:=q1;obtain⟨t,rfl⟩:=r1;refine wpAny_pyIter_strU ?_
 refine⟨s1.heap.objs.size,[s1.heap.objs.size],_,_,H1,rfl,I1.kept (t':=s1.toks) λb o e=>Ag _ e,zhC y t _,⟨A1 _,_,Ar _ rfl,rfl,rfl⟩,λb hb=>?_,q⟩;have e:b=s1.heap.objs.size:=by simpa using hb
 subst e;exact I1.fpOk (Ai _) (I1.hok.fresh (Ai _))
theorem zfq{y:Str}{g:TG}{tb:TS}{D:Ends}{σ : St}{H:Hp}(Pv:Nat -> St -> Hp -> Prop)(h0:Pv 0 σ H)
  (hs:∀i c σ H,y.cps[i]?=some c->Pv i σ H->g (.str ⟨#[c]⟩) σ H λσ2 H2=>tb { D with nx:=Pv (i+1),ct:=Pv (i+1),bk:=D.nx } σ2 H2) (hd:∀ σ H,Pv y.cps.size σ H->D.nx σ H) :
  ∃W:Nat->Nat->St->Hp->Prop,(∃m,W 0 m σ H)/\∀i m σ H,W i m σ H ->
   ((Its y).stop i H/\D.nx σ H)∨((Its y).go i H/\∃N:St->Hp->Prop,(∀ σ' H',N σ' H'->∃m',m'<m/\W (i+1) m' σ' H')/\∀x H',(Its y).yld i H x H'->g x σ H' λσ2 H2=>tb { D with nx:=N,ct:=N,bk:=D.nx } σ2 H2):=by
 refine⟨λi m σ H=>m=y.cps.size-i/\i<=y.cps.size/\Pv i σ H,⟨y.cps.size,by simp,A1 _,h0⟩,?_⟩;rintro i m σ H ⟨rfl,hi,p⟩
 by_cases hlt:i<y.cps.size
 .refine .inr ⟨hlt,Pv (i+1),λσ' H' p'=>⟨y.cps.size-(i+1),by lia,rfl,hlt,p'⟩,λx H' z=>?_⟩;obtain⟨e,c,hc,rfl⟩:=z;subst e;exact hs i c σ _ hc p
 .have e:i=y.cps.size:=by lia
  subst e;exact .inl ⟨Ai _,hd σ H p⟩
end
section
variable {prog:Am}{w:AB}{A:Aw}{E:Value->Ab->Prop}{s:Ab}
theorem zgh{e it:Addr}{i tk1:Nat}{x old:Value}{G:Heap -> Prop}{Q:Option Value -> Ab -> Prop}(en:IsEnum s.heap e it i old)
  (src:∀(Q1:Value->Ab->Prop) (E1:Value->Ab->Prop),(∀h1,G h1->IsEnum h1 e it i old->Q1 x { s with heap:=h1,toks:=tk1 })->Aq (Ap prog w) A.in1 (Ci (.ref it)) Q1 E1 s)
  (k:∀h1 h',G h1->IsEnumOut h' e it ((i:Int)+1) x h1.objs.size->h'.get? h1.objs.size=some { cls:=.type "tuple",data:=.seq #[.int i tk1,x] } ->
   (∀b o,b≠e->h1.get? b=some o->h'.get? b=some o)->Q (some (.ref h1.objs.size)) { s with heap:=h',toks:=tk1+1 }):Aq (Ap prog w) A (pyNext (.ref e)) Q E s:=by
 have ty:s.TypeIs (.ref e) "enumerate":=⟨_,en,rfl⟩;unfold pyNext;refine Ac (wpAny_attempt (wpAny_callSpecial?_slot (name:=Aa "__next__") ty B9 (wpAny_call_entry B9 ty PySem.F.entry_enumerate_next ?_ (PySem.F.args_enumerate_next_1 _))));obtain⟨hp,gg,d,tk,os⟩:=s;show Aq (Ap prog w) A.in1 (field (.ref e) 2 >>= _) _ _ _;refine Ac (BO (x:=.ref it) en rfl rfl (Ac (src _ _ λh1 g1 c1=>?_)));show Aq (Ap prog w) A.in1 (field (.ref e) 3 >>= _) _ _ (Shared.mk h1 gg d tk1 os);refine Ac (BO (x:=By i) c1 rfl rfl ?_);show Aq (Ap prog w) A.in1 (field (.ref e) 4 >>= _) _ _ (Shared.mk h1 gg d tk1 os);refine Ac (BO (x:=.none) c1 rfl rfl ?_);show Aq (Ap prog w) A.in1 (mkInt i >>= _) _ _ (Shared.mk h1 gg d tk1 os);refine Ac (wpAny_mkInt ?_);show Aq (Ap prog w) A.in1 (setField (.ref e) 3 (By ((i:Int)+1)) >>= _) _ _ (Shared.mk h1 gg d (tk1+1) os);refine Ac (CF c1 (by simp) λh2 c2 b2=>?_)
 replace b2:BK e h1 h2:=b2
 replace c2:IsEnum h2 e it ((i:Int)+1) old:=c2
 show Aq (Ap prog w) A.in1 (setField (.ref e) 4 .none >>= _) _ _ (Shared.mk h2 gg d (tk1+1) os);refine Ac (CF c2 (by simp) λh3 c3 b3=>?_)
 replace b3:BK e h2 h3:=b3
 replace c3:IsEnum h3 e it ((i:Int)+1) old:=c3
 show Aq (Ap prog w) A.in1 (newTuple [.int i tk1,x] >>= _) _ _ (Shared.mk h3 gg d (tk1+1) os);refine Ac (wpAny_newTuple ?_);have c4:IsEnum (h3.push { cls:=.type "tuple",data:=.seq #[.int i tk1,x] }) e it ((i:Int)+1) old:=Ag _ c3;have z3:h3.objs.size=h1.objs.size:=by rw[b3.1,b2.1]
 have ne:h1.objs.size≠e:=Nat.ne_of_gt (Ao c1);have t4:(h3.push { cls:=.type "tuple",data:=.seq #[.int i tk1,x] }).get? h1.objs.size=some { cls:=.type "tuple",data:=.seq #[.int i tk1,x] }:=by rw[<- z3];exact Ar _ rfl
 have k4:∀b o,b≠e->h1.get? b=some o->(h3.push { cls:=.type "tuple",data:=.seq #[.int i tk1,x] }).get? b=some o:=λb o hb q=>Ag _ (b3.extBut b o hb (b2.extBut b o hb q))
 show Aq (Ap prog w) A.in1 (Dh (.ref e) >>= _) _ _ (Shared.mk (h3.push { cls:=.type "tuple",data:=.seq #[.int i tk1,x] }) gg d (tk1+1) os);rw[z3];generalize h3.push { cls:=.type "tuple",data:=.seq #[.int i tk1,x] }=h4 at c4 t4 k4;unfold Dh;refine Ac (Ac (BO (x:=.none) c4 rfl rfl (As ?_)));simp only[if_true];refine Ac (wpAny_rule (Ac (BO (x:=old) c4 rfl rfl ?_)));refine Ac (CF c4 (by simp) λh5 c5 b5=>?_)
 replace b5:BK e h4 h5:=b5
 replace c5:IsEnum h5 e it ((i:Int)+1) x:=c5
 show Aq (Ap prog w) A.in1 (C9 (.ref e) (.ref h1.objs.size) >>= _) _ _ (Shared.mk h5 gg d (tk1+1) os);unfold C9;refine Ac (Ac (CF c5 (by simp) λh6 c6 b6=>?_))
 replace c6:IsEnumOut h6 e it ((i:Int)+1) x h1.objs.size:=c6
 refine CF c6 (by simp) λh7 c7 b7=>?_
 have all:∀b o,b≠e->h4.get? b=some o->h7.get? b=some o:=λb o hb q=>Heap.SameBut.extBut b7 b o hb (Heap.SameBut.extBut b6 b o hb (b5.extBut b o hb q))
 exact Ac (wpAny_letGo (As ⟨_,rfl,As (k h1 h7 g1 c7 (all _ _ ne t4) λb o hb q=>all b o hb (k4 b o hb q))⟩))
end
section
variable {X:Cx}
theorem zga{prog:Am}{w:AB}{A:Aw}{E:Value -> Ab -> Prop}{s:Ab}{it:Addr}{x:Str}{t:Tok}{i c:Nat}{Q:Value -> Ab -> Prop}(st:s.heap.IsStrIter it (Ce x) x t i)(hc:x.cps[i]? = some c)
  (k:∀h':Heap,h'.IsStrIter it (Ce x) x t (i+1)->BK it s.heap h'->Q (.str ⟨#[c]⟩ s.toks) { s with heap:=h',toks:=s.toks+1 }):Aq (Ap prog w) A (Ci (.ref it)) Q E s:=by
 unfold Ce at st k;split at st
 .rename_i h
  rw[if_pos h]at k;exact wpAny_nextOf_ascii_item st hc k
 .rename_i h
  rw[if_neg h]at k;exact wpAny_nextOf_wide_item st hc k
theorem zg4{prog:Am}{w:AB}{A:Aw}{E:Value -> Ab -> Prop}{s:Ab}{it:Addr}{x:Str}{t:Tok}{i:Nat}{Q:Value -> Ab -> Prop}(hh:A.handled=none)(st:s.heap.IsStrIter it (Ce x) x t i)(hc:x.cps[i]? = none)
  (k:∀(h':Heap) (e:Addr),Heap.ExtBut it s.heap h'->(∃o,h'.get? e=some o/\o.cls=.type "StopIteration")->E (.ref e) { s with heap:=h' }):Aq (Ap prog w) A (Ci (.ref it)) Q E s:=by
 unfold Ce at st;split at st
 .exact wpAny_nextOf_ascii_end hh st hc k
 .exact wpAny_nextOf_wide_end hh st hc k
noncomputable def Itse(x:Str):It:=⟨λi _=>i<x.cps.size,λi H y H'=>∃p c,y=.ref p/\H p=none/\H'=upd H p (.tup [.int i,.str ⟨#[c]⟩])/\x.cps[i]?=some c,λi _=>x.cps.size<=i⟩
theorem zf3{P:Am}{w:AB}{K:W.Frag}{es:List Expr}{x1:Nat}{pos:Pos}(x:Str)(t:Tok)(e it:Addr)(hne:e≠it):Turn P w K (.Tuple es x1 pos) (Itse x) [e,it] e (λi h=>i<=x.cps.size/\∃old,IsEnum h e it ((i:Nat):Int) old/\h.IsStrIter it (Ce x) x t i) where
 mem:=by simp
 obj:=λi h st b hb=>by
  obtain⟨_,old,h1,o,h2,c,d⟩:=st;rcases Ax.mp hb with z |z
  .subst z;exact⟨_,h1,λv q=>nomatch q⟩
  .have z':b=it:=by simpa using z
   subst z';exact⟨o,h2,λv q=>by rw[d]at q;cases q⟩
 keep:=λi h h' ⟨hi,old,h1,o,h2,r⟩ k=>⟨hi,old,k e (by simp) _ h1,o,k it (by simp) o h2,r⟩
 item:=by
  intro X hP hw hK hc i pins s σ H E I hf st hg;subst hP hw hK;obtain⟨hi,old,he,hit⟩:=st;have hg:i<x.cps.size:=hg;obtain⟨c,hcc⟩:∃c,x.cps[i]?=some c:=⟨_,Array.getElem?_eq_getElem hg⟩;have fe:=hf e (by simp);have fi:=hf it (by simp);have heS:e<s.heap.objs.size:=Ao he;have hiS:it<s.heap.objs.size:=by obtain⟨o,q,_⟩:=hit;exact Ao q
  refine zgh (tk1:=s.toks+1) (x:=.str ⟨#[c]⟩ s.toks) (G:=λh1=>h1.IsStrIter it (Ce x) x t (i+1)/\BK it s.heap h1) he (λQ1 E1 k=>zga hit hcc λh' st' sb=>k h' ⟨st',sb⟩ ((sb.2 e hne).trans he)) λh1 h' ⟨st1,sb⟩ eo tup kk=>⟨_,rfl,?_⟩
  refine wpAny_letOwnedTupleGo_enum (s:={ s with heap:=h',toks:=s.toks+1+1 }) eo λh2 he2 sb2=>?_
  have hsz:h1.objs.size=s.heap.objs.size:=sb.1;have fr:H s.heap.objs.size=none:=I.hok.fresh (Ai _)
  have I1:Inv X pins σ (upd H s.heap.objs.size (.tup [.int i,.str ⟨#[c]⟩])) { s with heap:=s.heap.push { cls:=.type "tuple",data:=.seq #[.int i (s.toks+1),.str ⟨#[c]⟩ s.toks] },toks:=s.toks } :=
   I.laid (t':=s.toks) (o:=.tup [.int i,.str ⟨#[c]⟩]) (λb ob q=>Ag _ q) (Ai _) ⟨by show 2<=sizeLine;decide,_,.cons ⟨_,rfl⟩ (.cons ⟨_,rfl⟩ .nil),IsTup.new _ _⟩
  have up:∀{b:Addr},b<s.heap.objs.size->∀o,upd H s.heap.objs.size o b=H b:=λhb o=>zam (AS hb)
  have fe1:FpOk X pins (upd H s.heap.objs.size (.tup [.int i,.str ⟨#[c]⟩])) e:=⟨by rw[up heS];exact fe.1,fe.2⟩;have fi1:FpOk X pins (upd H s.heap.objs.size (.tup [.int i,.str ⟨#[c]⟩])) it:=⟨by rw[up hiS];exact fi.1,fi.2⟩
  have I2:Inv X pins σ (upd H s.heap.objs.size (.tup [.int i,.str ⟨#[c]⟩])) { s with heap:=h2,toks:=s.toks+1+1 }:=I1.turned2 (λb o hbe hbi q=>by
   refine (sb2.2 b hbe).trans ?_
   show h'.get? b=some o;rcases Heap.get?_push_cases q with⟨z,rfl⟩ |q
   .rw[z,<- hsz];exact tup
   .exact kk b o hbe ((sb.2 b hbi).trans q)) fe1 fi1
  rw[hsz];refine⟨.ref s.heap.objs.size,_,I2,rfl,⟨_,c,rfl,fr,rfl,hcc⟩,⟨hg,.str ⟨#[c]⟩ s.toks,?_,?_⟩,λb hb=>?_⟩
  .exact he2
  .obtain⟨o,q,cc,d⟩:=st1;exact⟨o,(sb2.2 it (BJ hne)).trans (kk it o (BJ hne) q),cc,d⟩
  .rcases Ax.mp hb with z |z
   .subst z;exact fe1.1
   .have z':b=it:=by simpa using z
    subst z';exact fi1.1
 done:=by intro X hP hw hK hc i pins s σ H E I hf st hg;subst hP hw hK;obtain⟨hi,old,he,hit⟩:=st;have hg:x.cps.size<=i:=hg;obtain⟨f0,f1,f2,f3,f4,f5⟩:=hf it (by simp);refine zhi (G:=λh1=>Heap.ExtBut it s.heap h1) he (λQ1 E1 k=>zg4 (I.ok.hd hc) hit (by rw[Array.getElem?_eq_none_iff];lia) λh' e' sb so=>k h' e' sb so) λh1 sb=>⟨rfl,I.turned (t':=s.toks) (λb o hb e=>sb b o hb e) f0 f1 f3 f4 f5⟩
 self:=λ_ _ _ _ _ ⟨_,_,he,_⟩ h=>wpAny_pyIter_enum he h
noncomputable def zjY(t:TA):TI:=λσ H R=>t σ H λvs H1=>∃y,vs=[.str y]/\R (Itse y) H1
theorem zhO {l:Expr}{t:TA}{es:List Expr}{x1:Nat}{pos pos' p:Pos}(hg:Gl X "enumerate") (hm:X.mg "enumerate" = none) (ha:PA X [l] t)
  (he:AA [l] X.env=(false,eval l X.env)::AA [] X.env:=by rfl) (hpl:(CB pos' (AA [] X.env)).any (·.1)=false:=by rfl) :
  PI X (.Tuple es x1 pos) (.Call (.Name "enumerate" p) [l] [] pos') (zjY t):=by
 intro pins s σ H R I h;refine BF (zbW I hg hm (by rfl) ?_ (by decide) (by decide));refine AV (thn (ha pos' pins s σ H _ I h) λus s1 ⟨vs,H1,I1,r1,q1⟩=>?_) he hpl;obtain⟨y,ex,q⟩:=q1;subst ex;obtain⟨u,rfl,t',rfl⟩:=vals1 r1;refine call_enumerate_str λh' he hit hsz kp=>?_
 have I2:Inv X pins σ H1 { s1 with heap:=h' }:=I1.kept (t':=s1.toks) kp;refine wpAny_pyIter_enum he ?_
 refine⟨s1.heap.objs.size+1,[s1.heap.objs.size+1,s1.heap.objs.size],_,_,H1,rfl,I2,zf3 y t' _ _ (Nat.succ_ne_self _),⟨A1 _,_,he,hit⟩,λb hb=>?_,q⟩;rcases Ax.mp hb with z |z
 .subst z;exact I1.fpOk (Nat.le_succ _) (I1.hok.fresh (Nat.le_succ _))
 .have z':b=s1.heap.objs.size:=by simpa using z
  subst z';exact I1.fpOk (Ai _) (I1.hok.fresh (Ai _))
theorem zhf{y:Str}{g:TG}{tb:TS}{D:Ends}{σ : St}{H:Hp}(Pv:Nat -> St -> Hp -> Prop)(h0:Pv 0 σ H)
  (hs:∀i c σ H p,y.cps[i]?=some c->Pv i σ H->H p=none->g (.ref p) σ (upd H p (.tup [.int i,.str ⟨#[c]⟩])) λσ2 H2=>tb { D with nx:=Pv (i+1),ct:=Pv (i+1),bk:=D.nx } σ2 H2) (hd:∀ σ H,Pv y.cps.size σ H->D.nx σ H) :
  ∃W:Nat->Nat->St->Hp->Prop,(∃m,W 0 m σ H)/\∀i m σ H,W i m σ H ->
   ((Itse y).stop i H/\D.nx σ H)∨((Itse y).go i H/\∃N:St->Hp->Prop,(∀ σ' H',N σ' H'->∃m',m'<m/\W (i+1) m' σ' H')/\∀x H',(Itse y).yld i H x H'->g x σ H' λσ2 H2=>tb { D with nx:=N,ct:=N,bk:=D.nx } σ2 H2):=by
 refine⟨λi m σ H=>m=y.cps.size-i/\i<=y.cps.size/\Pv i σ H,⟨y.cps.size,by simp,A1 _,h0⟩,?_⟩;rintro i m σ H ⟨rfl,hi,p⟩
 by_cases hlt:i<y.cps.size
 .refine .inr ⟨hlt,Pv (i+1),λσ' H' p'=>⟨y.cps.size-(i+1),by lia,rfl,hlt,p'⟩,λx H' z=>?_⟩;obtain⟨q,c,rfl,hq,e,hc⟩:=z;subst e;exact hs i c σ _ q hc p hq
 .have e:i=y.cps.size:=by lia
  subst e;exact .inl ⟨Ai _,hd σ H p⟩
end
theorem zgV(items:Array Value):slicePick items none (some 0) (some (-1))=(items.toList.drop 1).reverse.toArray:=by
 unfold slicePick
 congr 1
 have hb:Cz none (some 0) (some (-1)) items.size=((items.size:Int)-1,max (-1) (min 0 ((items.size:Int)-1)),-1):=by unfold Cz;simp
 rw[hb];simp only;rcases BU items.size with h0 |h0
 .have e:items.toList=[]:=by rw[<- List.length_eq_zero_iff,Cs];exact h0
  rw[h0,e];rfl
 .have hr:sliceRange ((items.size:Int)-1) (max (-1) (min 0 ((items.size:Int)-1))) (-1)=(A3 (items.size-1)).map λk => items.size-1-k := by
   unfold sliceRange;rw[show max (-1) (min 0 ((items.size:Int)-1))=0 by lia];simp only;rw[if_neg (by decide)]
   have hc:(if (items.size:Int)-1 > 0 then ((items.size:Int)-1-0-(-1)-1) / -(-1) else 0).toNat=items.size-1:=by
    by_cases h1:(items.size:Int)-1 > 0
    .rw[if_pos h1];simp
    .rw[if_neg h1];lia
   rw[hc];refine Da λk hk=>?_
   have:=List.mem_range.mp hk;lia
  rw[hr];have hl:items.toList.length=items.size:=Cs
  have e1:∀m,m<=items.size-1->List.filterMap (λx=>items[x]?) ((A3 m).map λk=>items.size-1-k)=((items.toList.drop 1).reverse).take m:=by
   intro m
   induction m with
   |zero=>intro _;simp
   |succ m ih =>
    intro hm;rw[Cm,Ak,List.filterMap_append,ih (by lia)]
    have hget:((items.toList.drop 1).reverse)[m]?=some items[items.size-1-m]:=by rw[List.getElem?_reverse (by rw[AC,hl];lia),AC,hl,A9,show 1+(items.size-1-1-m)=items.size-1-m by lia,Ad (by rw[hl];lia)];rfl
    rw[List.take_succ,hget];simp only[AZ,List.map_nil];rw[C7,Array.getElem?_eq_getElem (by lia)];rfl
  rw[e1 _ (Ai _),AL (by rw[List.length_reverse,AC,hl];exact Ai _)]
section
variable {X:Cx}{e eh es:Expr}{te th ts:TE}{pos p2:Pos}
noncomputable def tBack(K:W.Frag)(te th ts:TE):TE:=λσ H Q=>te σ H λx H1=>th σ H1 λz H2=>ts σ H2 λy H3=>z=.int 0/\y=.int (-1)/\∃a xs,x=.ref a/\SqL K H3 a xs/\∀p,H3 p=none->Q (.ref p) (upd H3 p (.lst (xs.drop 1).reverse))
theorem zhS(he:PE X e te)(hh:PE X eh th)(hs:PE X es ts):PE X (.Subscript e (.Slice none (some eh) (some es) p2) pos) (tBack X.K te th ts):=by
 intro pins s σ H Q I h;refine Subscript_ (thn (he pins s σ H _ I h) λv s1 ⟨x,H1,I1,r1,q1⟩=>?_);refine wpAny_Slice ?_
 rw[evalPart_none,evalPart_some,evalPart_some];refine As (thn (hh pins s1 σ H1 _ I1 q1) λvh s2 ⟨z,H2,I2,r2,q2⟩=>thn (hs pins s2 σ H2 _ I2 q2) λvs s3 ⟨y,H3,I3,r3,q3⟩=>?_);obtain⟨rfl,rfl,a,xs,rfl,hx,q⟩:=q3;obtain⟨tk0,rfl⟩:=r2;obtain⟨tk,rfl⟩:=r3
 cases r1
 have I4:Inv X pins σ H3 { s3 with heap:=s3.heap.push { cls:=.type "slice",data:=.fields #[.none,.int 0 tk0,.int (-1) tk] } }:=I3.kept (t':=s3.toks) λb ob q=>Ag _ q
 obtain⟨its,r,ht,hz⟩:=I4.list hx;have hlen:=r.length;show Aq (Ap X.prog X.w) X.A (subscriptTail e (.Slice none (some eh) (some es) p2) (.ref a) (.ref s3.heap.objs.size)) (EP X pins σ Q) X.xe { s3 with heap:=s3.heap.push { cls:=.type "slice",data:=.fields #[.none,.int 0 tk0,.int (-1) tk] } };refine tail_any (ops:=[.ref a,.ref s3.heap.objs.size]) ht.isList.typeIs slot_list_getitem.lookup (wpAny_getItem_list_slice ht.isList (Heap.IsSliceOf.new ..) .none (.int 0 tk0) (.int (-1) tk) (by simp) ?_ (by rw[Az] <;> lia)) (by with_unfolding_all rfl);rw[zgV];generalize s3.heap.push { cls:=.type "slice",data:=.fields #[.none,.int 0 tk0,.int (-1) tk] }=h4 at *;refine⟨.ref _,_,I4.laid (t':=s3.toks) (o:=.lst (xs.drop 1).reverse) (λb ob q=>Ag _ q) (Ai _) ?_,rfl,q _ (I4.hok.fresh (Ai _))⟩;exact⟨by rw[List.length_reverse,AC];lia,(its.drop 1).reverse,0,(r.drop 1).reverse,by rw[Ar _ rfl]⟩
end
section
variable {X:Cx}{a:Expr}{es:List Expr}{e:Expr}{t:TA}{tv:TE}{pos p:Pos}{x:Str}{k:Nat}{f:Addr}{fd:A5}{ps:List Str}{sp:Sp}{E:XK}
theorem zhR{CX:CXT}{ds:List Value}{dvs:List V}(F:FnOk X.prog X.w X.K X.mg X.base CX k f fd ps sp)(hr:Room k X.A)(hk:Cv X.K (.ref f)=true)(hb:Binds X.K fd ps ds)(hd:Vals dvs ds)(hx:zcU CX X E)(hv:PE X (.Name x p) tv)
  (ha:PA X (e::es) t) (he:AA (e::es) X.env=(false,eval e X.env)::AA es X.env:=by rfl) (hpl:(CB pos (AA es X.env)).any (·.1)=false:=by rfl) :
  PE X (.Call (.Name x p) (e::es) [] pos) (λσ H Q=>tv σ H λv H1=>v=.ref f/\tCall sp dvs E t σ H1 Q):=by
 intro pins s σ H Q I h;refine BF (thn (hv pins s σ H _ I h) λu s1 ⟨v,H1,I1,r1,ev,q1⟩=>?_);subst ev
 cases (show u=AM f from r1)
 refine W.callWith_K (h₀:=X.base) I1.ok.mod.kin hk (thn (ha pos pins s1 σ H1 _ I1 q1) λus s2 ⟨vs,H2,I2,r,q⟩=>⟨I2.kIn,?_⟩) he hpl;exact zil F hr hb hd hx I2 r q
end
open PySem PyProof.Rows
noncomputable abbrev zhh(C t:Addr):Obj:={ cls:=.ref C,data:=.fields #[.ref t,.none,.none,.none,.bool false,.none] }
noncomputable abbrev heapX (h:Heap) (C:Addr) (us:List Value):Heap:=(h.push { cls:=.type "tuple",data:=.seq us.toArray }).push (zhh C h.objs.size)
theorem zbt{h:Heap}{C:Addr}{us:List Value}(b:Addr)(o:Obj)(e:h.get? b=some o):(heapX h C us).get? b=some o:=Ag _ (Ag _ e)
section
variable {prog:Am}{w:AB}{A:Aw}{E:Value->Ab->Prop}{h:Heap}{g:Array GenState}{d:Drawn}{t:Nat}{os:OsState}
variable {nm q:Str}{C N f:Addr}{bs bm bmB:List Value}{hdct:Bool}{sn:List Str}{sub:List Value}{ab:Bool}{col:Option Bool}{dd:Option Addr}{k0 k1 k2 k3 k5:Option Value}{B newId initId:String}
theorem zgv(F:C4 B newId initId bmB)(T:OwnTail h bmB bm){mN:Str -> Option Value}{us:List Value}{Q:Fin -> Ab -> Prop}(hC:h.get? C=some (excClassObj nm q C N bs bm hdct sn sub ab col dd k0 k1 k2 k3 k5 newId))(hn:h.Ns N mN)
  (hni:mN "__init__" = some (.ref f)) (hbd:∀self,W.Looks (Ap prog w) h (bindSpecial (.ref f) self) (.ref f,[self])) (hus:us.length<=sizeLine)
  (hcall:Aq (Ap prog w) A (call (.ref f) (.ref (h.objs.size+1)::us)) (λv s'=>v=.none/\Q (.done (.ret (.ref (h.objs.size+1)))) s') E ⟨heapX h C us,g,d,t,os⟩) :
  Aq (Ap prog w) A (Builtin.«type.__call__» ⟨.ref C::us,[]⟩) Q E ⟨h,g,d,t,os⟩:=by
 repeat (first |with_reducible refine CS hC ?_ |with_reducible refine wpAny_madeBy_exc hC ?_ |wp_step)
 refine codeAny_call_builtin_code (Code.quiet_builtin _ F.quiet) (wpAny_check_new_subT F T hC (codeAny_exc_new_subT F T hC ?_ hus));show Aq _ _ _ _ _ _;have c1:(heapX h C us).get? C=_:=zbt _ _ hC;have n1:(heapX h C us).Ns N mN:=hn.keeps zbt;have g1:(heapX h C us).get? (h.objs.size+1)=some (zhh C h.objs.size):=by heap_get
 have hcC:(AM C::bm).contains (.ref C)=true:=by simp
 have T1:=T.keeps (h':=heapX h C us) zbt;unfold isInstance
 repeat (first |with_reducible refine CS g1 ?_ | (with_reducible refine wpAny_isSubtype_exc c1 ?_;rw[hcC]) |wp_step)
 show Aq _ _ (typeLookup (.ref C) _) _ _ _;refine wpAny_typeLookup_tail c1 n1 T1 F.mroIs F.init.lookup ?_
 rw[hni];refine Bw (Ac (((hbd _).keeps zbt).at ?_));refine Ac (BR hcall (λv s' ⟨hv,hq⟩=>?_) λ_ _ z=>z);subst hv;exact As (As hq)
theorem zh8(F:C4 B newId initId bmB)(T:OwnTail h bmB bm){mN:Str -> Option Value}{us:List Value}{Q:Value -> Ab -> Prop}(hC:h.get? C=some (excClassObj nm q C N bs bm hdct sn sub ab col dd k0 k1 k2 k3 k5 newId))(hn:h.Ns N mN)
  (hni:mN "__init__" = some (.ref f)) (hbd:∀self,W.Looks (Ap prog w) h (bindSpecial (.ref f) self) (.ref f,[self])) (hus:us.length<=sizeLine)
  (hcall:Aq (Ap prog w) (A.under (.builtin "type.__call__" ⟨.ref C::us,[]⟩)) (call (.ref f) (.ref (h.objs.size+1)::us)) (λv s'=>v=.none/\Q (.ref (h.objs.size+1)) s') E ⟨heapX h C us,g,d,t,os⟩) :
  Aq (Ap prog w) A (call (.ref C) us) Q E ⟨h,g,d,t,os⟩:=by
 have f1:=tc_lookup;have f2:=tc_bind (.ref C);have hT:(⟨h,g,d,t,os⟩:Ab).TypeIs (.ref C) "type":=⟨_,hC,rfl⟩;refine wpAny_call (codeAny_of_tree ?_);show Aq _ _ (callAny (.ref C) _) _ _ _
 repeat (any_goals (first |assumption |with_reducible refine CS hC ?_ |wp_step))
 refine⟨rfl,codeAny_call_builtin_at (Code.quiet_builtin _ (by decide +kernel)) entry_typeCall (wpAny_check_type_call_sub hC (zgv F T hC hn hni hbd hus ?_))⟩;exact hcall
end
noncomputable def overX(bm:List Value):List Value->Bool
 |.ref _::r=>overX bm r
 |l=>l == bm
noncomputable abbrev bmV:List Value:=[.type "ValueError",.type "Exception",.type "BaseException",.type "object"]
theorem zfM (self:Value):∀{l:List Value},overX bmV l=true->PySem.refuseLoop self "__setattr__" l=pure ()
 |.ref c::r,e=>by rw[PySem.refuseLoop_ref];exact zfM self (by unfold overX at e;exact e)
 |[],e=>by cases e
 |.none::r,e=>by cases e
 |.type n::r,e=>by
  have:(Value.type n::r)=bmV:=eq_of_beq (by unfold overX at e;exact e);rw[this];exact PySem.F.store_ValueError.passes self
section
variable {prog:Am}{w:AB}{A:Aw}{R:Result->Ab->Prop}{E:Value->Ab->Prop}{s:Ab}{K:W.Frag}{x C:Addr}{ox:Obj}{od:Option Obj}
theorem osaX {name:Str}{tk:Tok}{v:Value}{cd:ClassData}(X:K.In s.heap) (I:CU s.heap x ox C od) (hc:W.clsIn K C=some cd) (hp:overX bmV cd.mro=true) (hm:W.mroIn K C (.type "object")=some true) (hn:Bl K (.ref C) name=some none)
  (h:Aq (Ap prog w) A.in1 (PySem.Builtin.ObjectAttr.storeInOwnDict (.ref x) (.ref C) (.str name tk) name v false)
   (λfin s'=>match fin with |.done f=>R (.ok f) s' |.again c'=>c'.quiet=true/\CC (Ap prog w) A c' R s') (λe s'=>R (.error e) s') s) :
  CC (Ap prog w) A (.call (.builtin "object.__setattr__") ⟨[.ref x,.str name tk,v],[]⟩) R s:=by
 have SF:=PySem.F.store_object;have sub:W.Looks (Ap prog w) s.heap (isInstance (.ref x) (.type "object")) true:=I.type.andThen (W.looks_mroIn X hm);refine codeAny_call_builtin SF.slot.plain SF.entry (W.check_slot (M:=Ap prog w) (s:=s) (i:="object.__setattr__") (owner:="object") (n:="__setattr__") (self:=.ref x) (rest:=[.str name tk,v]) (kw:=[]) SF.kind SF.split sub (SF.args (.ref x) (.str name tk) v) ?_);have hmr:W.Looks (Ap prog w) s.heap (mroOf (.ref C)) cd.mro:=(W.looks_clsIn X hc).andThen .now;rw[W.osa_eq,refuse_eq];refine Ac (Ac (I.type.here (Ac (hmr.here ?_))));rw[zfM _ hp];refine As (Ac (I.type.here (Ac ((W.looks_findIn X hn).here (Ac (As h))))))
theorem zjj{name:Str}{v:Value}{cd:ClassData}{vs:Array Value}{sl:Array (Option Value)}{Q:Unit -> Ab -> Prop}(X:K.In s.heap)(hx:s.heap.get? x=some ⟨.ref C, none, .fields vs, sl⟩)(hc:W.clsIn K C=some cd)(hd:cd.hasDict=true)(hp:overX bmV cd.mro=true)
  (hm:W.mroIn K C (.type "object")=some true) (hn:Bl K (.ref C) name=some none) (hs:Bl K (.ref C) "__setattr__" = some (some (.builtin "object.__setattr__")))
  (h:∀h' dx,s.heap.get? dx=none->dx≠x->h'.get? x=some ⟨.ref C,some dx,.fields vs,sl⟩->h'.Ns1 dx (λy=>if y=name then some v else none)->(∀b o,b≠x->s.heap.get? b=some o->h'.get? b=some o)->Q () { s with heap:=h',toks:=s.toks+2 }) :
  Aq (Ap prog w) A (setAttr (.ref x) name v) Q E s:=by
 have I:CU s.heap x ⟨.ref C,none,.fields vs,sl⟩ C none:=⟨hx,rfl,rfl,trivial⟩;refine W.set_plain X I hs (osaX (s:={ s with toks:=s.toks+1 }) X I hc hp hm hn ?_);refine Ac (As (Ac (Ac (wpAny_loadPart hx (Ac (W.Looks.here (s:={ s with toks:=s.toks+1 }) (W.looks_clsIn X hc) ?_))))));rw[hd];have e0:(s.heap.push W.emptyDict).get? s.heap.objs.size=some W.emptyDict:=Ar s.heap rfl;have ne:s.heap.objs.size≠x:=Nat.ne_of_gt (Ao hx);have hx1:=Ag W.emptyDict hx;refine Ac (wpAny_alloc (o:=W.emptyDict) (s:={ s with toks:=s.toks+1 }) ?_);refine Ac (wpAny_update hx1 ?_);refine As (Ac (As (Ac ?_)));have up:∀b,b≠x->((s.heap.push W.emptyDict).update x λo=>{ o with dict:=some s.heap.objs.size }).get? b=(s.heap.push W.emptyDict).get? b:=λb z=>BL _ _ (BJ z)
 have n1:((s.heap.push W.emptyDict).update x λo=>{ o with dict:=some s.heap.objs.size }).Ns1 s.heap.objs.size (λ_=>none) :=
  (Heap.Ns1.of_empty (h:=s.heap.push W.emptyDict) ⟨W.emptyDict,#[],_,e0,rfl,(λe he=>absurd he (by simp)),λ_=>rfl⟩).at λo q=>(up _ ne).trans q
 refine wpAny_nsSet1 (s:={ s with heap:=_,toks:=s.toks+1 }) n1 λh' hn2 hs2=>?_
 obtain⟨oD,esD,epD,hoD,hdD,hcD⟩:=hn2.count (PySem.Within.cons name v (ns:=[]) λ_ z=>absurd rfl z);refine Ac (wpAny_lookBehind hoD (by rw[hdD];exact pastItsLine_dict (AK hcD (by rw[List.length_singleton,sizeLine_eq];decide))) ?_);refine As (h _ s.heap.objs.size (by cases q:s.heap.get? s.heap.objs.size with |none=>rfl |some u=>exact absurd (Ao q) (Cb _)) ne ?_ hn2 λb o z q=>?_)
 .exact (hs2.2 _ (BJ ne)).trans (Heap.get?_update_self _ hx1 rfl)
 .exact (hs2.2 _ (AS (Ao q))).trans ((up b z).trans (Ag _ q))
end
section
variable {prog:Am}{w:AB}{A:Aw}{E:Value->Ab->Prop}{s:Ab}{K:W.Frag}{x C dx:Addr}
theorem zh3{name:Str}{v:Value}{cd:ClassData}{vs:Array Value}{sl:Array (Option Value)}{mA:Str -> Option Value}{ns:List Str}{Q:Unit -> Ab -> Prop}(X:K.In s.heap)(hx:s.heap.get? x=some ⟨.ref C, some dx, .fields vs, sl⟩)(hn1:s.heap.Ns1 dx mA)(hc:W.clsIn K C=some cd)(hd:cd.hasDict=true)(hp:overX bmV cd.mro=true)
  (hm:W.mroIn K C (.type "object")=some true) (hn:Bl K (.ref C) name=some none) (hs:Bl K (.ref C) "__setattr__" = some (some (.builtin "object.__setattr__")))
  (hw:PySem.Within mA ns) (hsz:ns.length<=sizeLine)
  (h:∀h',h'.Ns1 dx (λy=>if y=name then some v else mA y)->BK dx s.heap h'->Q () { s with heap:=h',toks:=s.toks+2 }) :
  Aq (Ap prog w) A (setAttr (.ref x) name v) Q E s:=by
 obtain⟨od,ho,hl⟩:=zcx hn1;have I:CU s.heap x ⟨.ref C,some dx,.fields vs,sl⟩ C (some od):=⟨hx,rfl,rfl,ho⟩;refine W.set_plain X I hs (osaX (s:={ s with toks:=s.toks+1 }) X I hc hp hm hn ?_);refine Ac (As (Ac (Ac (wpAny_loadPart hx (Ac (W.Looks.here (s:={ s with toks:=s.toks+1 }) (W.looks_clsIn X hc) ?_))))));rw[hd];refine As (a:=some dx) (Ac (As (Ac ?_)));refine wpAny_nsSet1 (s:={ s with toks:=s.toks+1 }) hn1 λh' hn2 hs2=>?_
 obtain⟨oD,esD,epD,hoD,hdD,hcD⟩:=hn2.count (PySem.Within.cons name v hw);refine Ac (wpAny_lookBehind hoD (by rw[hdD];exact pastItsLine_dict (AK hcD (by rw[AD];lia))) ?_);exact As (h _ hn2 hs2)
end
noncomputable def xdO(d:Addr)(fs:List (Str×V)):HO:=.ext λh=>∃mA,h.Ns1 d mA/\(∀f,RelO (fs.lookup f) (mA f))/\PySem.Within mA (fs.map (·.1))
noncomputable def exN(e C t:Addr)(d:Option Addr):HO:=.ext λh=>h.get? e=some { cls:=.ref C,dict:=d,data:=.fields #[.ref t,.none,.none,.none,.bool false,.none] }
theorem zib{P:Am}{w:AB}{H:Hp}{h:Heap}{d:Addr}{fs:List (Str×V)}{mA:Str->Option Value}(a:h.Ns1 d mA)(b:∀f,RelO (fs.lookup f) (mA f))(c:PySem.Within mA (fs.map (·.1))):ObjOk P w H h d (xdO d fs) :=
 ⟨⟨mA,a,b,c⟩,let ⟨o,_,_,e,_⟩:=a;⟨o,e⟩,λh1 h2 ⟨mA,a,b,c⟩ k=>⟨mA,a.at k,b,c⟩⟩
theorem ziB{P:Am}{w:AB}{H:Hp}{h:Heap}{e C t:Addr}{d:Option Addr}(a:h.get? e=some { cls:=.ref C,dict:=d,data:=.fields #[.ref t,.none,.none,.none,.bool false,.none] }):ObjOk P w H h e (exN e C t d) :=
 ⟨a,⟨_,a⟩,λh1 h2 q k=>k _ q⟩
structure ExS (K:W.Frag) (C:Addr):Prop where
 cl:(W.clsIn K C).any (λcd=>cd.hasDict && overX bmV cd.mro)=true
 m:W.mroIn K C (.type "object")=some true
 s:Bl K (.ref C) "__setattr__" = some (some (.builtin "object.__setattr__"))
noncomputable def sFldX(K:W.Frag)(ta tv:TE)(f:Str):TS:=λD σ H=>tv σ H λy H1=>ta σ H1 λx H2=>∃a C t,x=.ref a/\ExS K C/\zcV K C f /\
 ((H2 a=some (exN a C t none)/\∀d,H2 d=none->d≠a->D.nx σ (upd (upd H2 a (exN a C t (some d))) d (xdO d [(f,y)]))) ∨
  (∃d fs,H2 a=some (exN a C t (some d))/\H2 d=some (xdO d fs)/\fs.length<1000/\D.nx σ (upd H2 d (xdO d (putF f y fs)))))
section
variable {X:Cx}{pins:List (Addr×Obj)}{σ:St}{H:Hp}{s:Ab}{a C t:Addr}{f:Str}{A:Aw}{E:Value->Ab->Prop}
theorem ziM{y:V}{u:Value}{Q:Unit -> Ab -> Prop}(hex:X.ex = [])(I:Inv X pins σ H s)(c:ExS X.K C)(n:zcV X.K C f)(e:H a=some (exN a C t none))(ry:RelV y u)
  (h:∀s' d,H d=none->d≠a->Inv X pins σ (upd (upd H a (exN a C t (some d))) d (xdO d [(f,y)])) s'->Q () s'):Aq (Ap X.prog X.w) A (setAttr (.ref a) f u) Q E s:=by
 obtain⟨e1,_⟩:=I.hok a _ e;obtain⟨cd,hc,q⟩:=W.any_some c.cl;rw[AX]at q;refine zjj I.kIn e1 hc q.1 q.2 c.m n c.s λh' d hd ne g1 g2 k=>?_
 have hn:=I.hok.gone hd;have I1:=I.write (x:=a) (e:=a) (o:=exN a C t (some d)) (h':=h') (t':=s.toks+2) (by rw[e];exact BS) (.inl rfl) k ⟨_,g1⟩ (ziB g1);refine h _ d hn ne (I1.track I hex (by rw[zam ne];exact hn) hd (zib g2 (λg=>?_) λg hg=>?_))
 .rw[AW]
  by_cases q:g=f
  .subst q;simp;exact ry
  .rw[if_neg q,show (g == f)=false from beq_eq_false_iff_ne.mpr q];exact BS
 .by_cases q:g=f
  .simp[q]
  .exact absurd (show (if g=f then some u else none)=none by rw[if_neg q]) hg
theorem zhE{y:V}{u:Value}{d:Addr}{fs:List (Str × V)}{Q:Unit -> Ab -> Prop}(I:Inv X pins σ H s)(c:ExS X.K C)(n:zcV X.K C f)(e:H a=some (exN a C t (some d)))(ed:H d=some (xdO d fs))(hl:fs.length < 1000)(ry:RelV y u)
  (h:∀s',Inv X pins σ (upd H d (xdO d (putF f y fs))) s'->Q () s'):Aq (Ap X.prog X.w) A (setAttr (.ref a) f u) Q E s:=by
 obtain⟨e1,_⟩:=I.hok a _ e;obtain⟨⟨mA,m1,r,wi⟩,_⟩:=I.hok d _ ed;obtain⟨cd,hc,q⟩:=W.any_some c.cl;rw[AX]at q;have hz:(fs.map (·.1)).length<=sizeLine:=by rw[Ae,sizeLine_eq];lia
 refine zh3 I.kIn e1 m1 hc q.1 q.2 c.m n c.s wi hz λh' g2 k=>h _ ?_
 refine I.write (x:=d) (e:=d) (by rw[ed];exact BS) (.inl rfl) (λb q hb z=>(k.2 b hb).trans z) (let ⟨o,_,_,e',_⟩:=g2;⟨o,e'⟩) (zib g2 (λg=>?_) λg hg=>?_)
 .rw[zdh]
  by_cases q:g=f
  .rw[if_pos q,if_pos q];exact ry
  .rw[if_neg q,if_neg q];exact r g
 .by_cases q:g=f
  .rw[q];exact (zdj f y fs).1
  .refine (zdj f y fs).2 g (wi g λz=>hg ?_);show (if g=f then some u else mA g)=none;rw[if_neg q];exact z
end
section
variable {X:Cx}{o value:Expr}{f:Str}{pos pos':Pos}{ta tv:TE}
theorem zgT(hex:X.ex=[])(ha:PE X o ta)(hv:PE X value tv)(hs:swapsWith value (some (.Attribute o f pos')) pos.line X.env=pure false):PS X (.Assign [.Attribute o f pos'] value pos) (sFldX X.K ta tv f):=by
 intro pins s σ H D I h;refine plainObj_wpAny_Assign_Attribute (thn (hv pins s σ H _ I h) λu s1 ⟨y,H1,I1,ry,q⟩=>thn (ha pins s1 σ H1 _ I1 q) λov s2 ⟨x,H2,I2,rx,a,C,t,ex,c,n,q2⟩=>?_) hs;subst ex;obtain rfl:ov=AM a:=rx;rcases q2 with⟨e,q2⟩ |⟨d,fs,e,ed,l,q2⟩
 .exact ziM hex I2 c n e ry λs3 d hd ne I3=>⟨σ,_,I3,q2 d hd ne⟩
 .exact zhE I2 c n e ed l ry λs3 I3=>⟨σ,_,I3,q2⟩
end
noncomputable def zfV(K:W.Frag)(C:Addr)(bB:List Value)(nw:String)(f:Addr):Bool:=match K.lookup C with
 |some ⟨.type "type",_,.cls c,⟨[_,_,_,_,k4,_]⟩⟩=>k4 == some (.builtin nw) && !c.hasDel && c.mro.head? == some (.ref C) && W.tailIn K bB c.mro.tail && W.nsOkIn K c.ns && BD K c.ns "__init__" == some (some (.ref f))
 |_=>false
theorem zja{K:W.Frag}{h:Heap}{N:Addr}{mg:Str->Option Value}{n:Str}{v:Value}(X:K.In h)(G:h.Ns N mg)(e:BD K N n=some (some v)):mg n=some v:=by
 obtain⟨o,es,ep,ho,hd,_,hf⟩:=G;unfold BD at e;split at e
 .rename_i c d es' n' sl q
  have:=X _ _ q;rw[ho]at this
  cases this
  cases hd
  split at e
  .rename_i en he
   cases e
   rw[<- hf];unfold nsFind findBy;rw[<- Array.find?_toList,he];rfl
  .split at e <;> cases e
 .cases e
theorem zhg{K:W.Frag}{h:Heap}{C f:Addr}{bB:List Value}{nw:String}(X:K.In h)(q:zfV K C bB nw f=true) :
  ∃bm N nm qn bs hd sn sub ab col dd k0 k1 k2 k3 k5 mN,h.get? C=some (excClassObj nm qn C N bs bm hd sn sub ab col dd k0 k1 k2 k3 k5 nw)/\h.Ns N mN/\mN "__init__" = some (.ref f)/\OwnTail h bB bm:=by
 unfold zfV at q;split at q
 .rename_i dd c k0 k1 k2 k3 k4 k5 ho
  simp only[AX,beq_iff_eq,Bool.not_eq_true']at q;obtain⟨⟨⟨⟨⟨q1,q2⟩,q3⟩,q4⟩,q5⟩,q6⟩:=q;have h0:=X _ _ ho
  cases c with
  |mk nm bs mro ns qn hd sn sub ab col del =>
   cases q2
   subst q1
   cases mro with
   |nil=>cases q3
   |cons b bm =>
    cases q3
    exact⟨bm,ns,nm,qn,bs,hd,sn,sub,ab,col,dd,k0,k1,k2,k3,k5,_,h0,.of_isNs (W.isNs_of_in X q5),zja X (.of_isNs (W.isNs_of_in X q5)) q6,W.tail_of_in X q4⟩
 .cases q
structure MkX (K:W.Frag) (C f:Addr) (bB:List Value) (nw:String):Prop where
 ex:zfV K C bB nw f=true
 fn:W.isFn K (.ref f)=true
 kp:Cv K (.ref C)=true
section
variable {X:Cx}{C f:Addr}{k:Nat}{fd:A5}{ps:List Str}{sp:Sp}{E:XK}{Bn nw it:String}{bB:List Value}{CX:CXT}{x:Str}{p pos:Pos}{e:Expr}{es:List Expr}{t:TA}
theorem Inv.madeX{pins:List (Addr×Obj)}{σ:St}{H:Hp}{s:Ab}{us:List Value}(I:Inv X pins σ H s):Inv X pins σ (upd H (s.heap.objs.size+1) (exN (s.heap.objs.size+1) C s.heap.objs.size none)) { s with heap:=heapX s.heap C us } :=
 I.laid (t':=s.toks) zbt (Nat.le_succ _) (ziB (by
  have:=Ar (s.heap.push { cls:=.type "tuple",data:=.seq us.toArray }) (o:=zhh C s.heap.objs.size) rfl
  rwa [Heap.size_push]at this))
theorem zgL{pins:List (Addr × Obj)}{σ : St}{H:Hp}{s:Ab}{Q:VK}{us:List Value}{vs:List V}(FB:C4 Bn nw it bB)(M:MkX X.K C f bB nw)(F:FnOk X.prog X.w X.K X.mg X.base CX k f fd ps sp)(hr:Room (k + 1) X.A)(hb:Binds X.K fd ps [])
  (hx:zcU CX X E) (I:Inv X pins σ H s) (r:Vals vs us) (hl:vs.length<=1000)
  (h:∀x tp,H x=none->X.s₀.heap.get? x=none->sp (.ref x::vs) (upd H x (exN x C tp none)) (λv H2=>v=.non/\Q (.ref x) H2) E) :
  Aq (Ap X.prog X.w) X.A (call (.ref C) us) (EP X pins σ Q) X.xe s:=by
 have hq:=h (s.heap.objs.size+1) s.heap.objs.size (I.hok.fresh (Nat.le_succ _)) (by
  cases q:X.s₀.heap.get? (s.heap.objs.size+1) with
  |none=>rfl
  |some u=>exact absurd (AE (Ao q) I.sz) (by lia))
 have I2:=Inv.madeX (C:=C) (us:=us) I;have r2:Vals (V.ref (s.heap.objs.size+1)::vs) (AM (s.heap.objs.size+1)::us):=.cons rfl r
 have hl2:(AM (s.heap.objs.size+1)::us++[]).length=ps.length:=by have e:=r2.length;rw[F.len _ _ _ _ hq]at e;rw[B3];exact e.symm
 obtain⟨bm,ns,nm,qn,bs,hdd,sn,sub,ab,col,dd,k0,k1,k2,k3,k5,mN,hC,hN,hni,T⟩:=zhg I.kIn M.ex
 have fin:=F.run _ X.stack _ _ ⟨AM (s.heap.objs.size+1)::us,[]⟩ (AM (s.heap.objs.size+1)::us) _ _ E (hr.make C us []) (I2.env0.make C us []) (by
  have:=hb _ (AM (s.heap.objs.size+1)::us) I2.kIn hl2
  rwa [B3]at this) r2 hq
 obtain⟨hh,g,d,tk,os⟩:=s;refine zh8 FB T hC hN hni (λself=>W.bind_fn I.kIn self (beq_iff_eq.mp M.fn)) (by have e:=r.length;rw[sizeLine_eq];lia) (wpAny_call (codeAny_mono fin λr s' hq'=>?_))
 cases r with
 |error e=>exact hx pins σ _ _ e s' I2 hq'
 |ok fl =>
  cases fl with
  |ret u =>
   obtain⟨v,H',I3,rv,ev,q3⟩:=I2.after hq';subst ev;exact⟨rv,⟨V.ref (hh.objs.size+1),H',I3,rfl,q3⟩⟩
  |next=>exact Bj hq'
  |brk=>exact Bj hq'
  |cont=>exact Bj hq'
end
noncomputable def drop(H:Hp)(a:Addr):Hp:=λb=>if b=a then none else H b
theorem zei{H:Hp}{a b:Addr}(h:b≠a):drop H a b=H b:=by unfold drop;rw[if_neg h]
theorem zcy{H:Hp}{a:Addr}:drop H a a=none:=by unfold drop;rw[if_pos rfl]
theorem zh5{H:Hp}{a d:Addr}{o u:HO}(hn:H a=none)(ne:d≠a):drop (upd (upd H a o) d u) a=upd H d u:=by
 funext b
 by_cases q:b=a
 .subst q;rw[zcy,zam (BJ ne)];exact hn.symm
 .rw[zei q]
  by_cases z:b=d
  .subst z;rw[zaa,zaa]
  .rw[zam z,zam z,zam q]
section
variable {M:Db}{A:Aw}{E:Value->Ab->Prop}{s:Ab}{env:Env}
variable {nm q:Str}{C N:Addr}{bs bm:List Value}{hdct:Bool}{sn:List Str}{sub:List Value}{ab:Bool}{col:Option Bool}{dd:Option Addr}{k0 k1 k2 k3 k5:Option Value}{newId:String}
theorem zf5{x:Sem Value}{Q:Flow -> Ab -> Prop}(hh:A.handled=none)
  (h:Aq M A x (λv s₁=>∃e t dx C N nm q bs bm hdct sn sub ab col dd k0 k1 k2 k3 k5 newId,v=.ref e/\bm.contains (.type "BaseException")=true/\s₁.heap.get? C=some (excClassObj nm q C N bs bm hdct sn sub ab col dd k0 k1 k2 k3 k5 newId) /\
   s₁.heap.get? e=some { cls:=.ref C,dict:=dx,data:=.fields #[.ref t,.none,.none,.none,.bool false,.none] }/\E (.ref e) s₁) E s) :
  Aq M A (raiseStmt env (some x) none) Q E s:=by
 unfold raiseStmt;refine Ac (BR h (λv s₁ h₁=>?_) λ_ _ x=>x);obtain⟨e,t,dx,C,N,nm,q,bs,bm,hdct,sn,sub,ab,col,dd,k0,k1,k2,k3,k5,newId,rfl,hbase,hC,he,hE⟩:=h₁;have hcB:(AM C::bm).contains (.type "BaseException")=true:=by rw[List.contains_cons,hbase,Bool.or_true]
 obtain⟨hp,g,d,tk,os⟩:=s₁
 repeat (first |with_reducible refine CS he ?_ |with_reducible refine CS hC ?_ | (with_reducible refine wpAny_isSubtype_exc hC ?_;rw[hcB]) |wp_step)
 exact wpAny_raiseNew_none hh hE
end
section
variable {X:Cx}{pins:List (Addr×Obj)}{σ:St}{H:Hp}{s:Ab}
theorem Inv.forget{a:Addr}{φ:Heap->Prop}(I:Inv X pins σ H s)(e:H a=some (.ext φ)):Inv X pins σ (drop H a) s:=by
 have sub:∀b u,drop H a b=some u->H b=some u:=λb u q=>by
  by_cases z:b=a
  .subst z;rw[zcy]at q;cases q
  .rwa [zei z]at q
 have non:∀b,H b=none->drop H a b=none:=λb q=>by
  by_cases z:b=a
  .subst z;exact zcy
  .rw[zei z];exact q
 have oth:∀b u,H b=some u->(∀ φ,u≠.ext φ)->drop H a b=some u:=λb u q n=>by
  by_cases z:b=a
  .subst z;rw[e]at q;cases q;exact absurd rfl (n φ)
  .rw[zei z];exact q
 have B:=I.base;refine⟨I.ok,I.os,I.bare,⟨B.keep,B.slot,λb v q z hx=>non _ (B.free b v q z hx),B.there,λb xs q=>oth _ _ (B.tups b xs q) (λ_ z=>nomatch z),λb v w q=>oth _ _ (B.frzs b v w q) (λ_ z=>nomatch z),λb ps q=>?_⟩,I.loc,I.cell,non _ I.free,λx c q=>non _ (I.freeC x c q),λp hp=>?_,λb v q=>?_,I.len⟩
 .obtain⟨more,this⟩:=B.tbls b ps q;exact⟨more,oth _ _ this (λ_ z=>nomatch z)⟩
 .obtain⟨q1,q2,q3⟩:=I.pin p hp;exact⟨q1,non _ q2,q3⟩
 .exact (I.hok b v (sub b v q)).stay (λ_ _ _ r=>r) (λc r=>oth _ _ r (λ_ z=>nomatch z)) λc xs r=>oth _ _ r (λ_ z=>nomatch z)
end
section
variable {P:Am}{w:AB}{K:W.Frag}{mg:Str->Option Value}{base:Heap}{N:List Str}{qual:Str}{scope:Scope}{f:Addr}{cd:Value}{A:Aw}{outer:List Env}{s0:Ab}{H0:Hp}{E:XK}
theorem zjI{C fI:Addr}{bB:List Value}{nw Bn it:String}{ex:Expr}{pos:Pos}{pins:List (Addr × Obj)}{σ : St}{H:Hp}{s:Ab}{Q:Flow -> Ab -> Prop}(FB:C4 Bn nw it bB)(M:MkX K C fI bB nw)(I:Inv (cxOf (CX1 P w) P w K mg base N qual scope f cd A outer s0 H0 E) pins σ H s)
  (he:Aq (Ap P w) (cxOf (CX1 P w) P w K mg base N qual scope f cd A outer s0 H0 E).A (eval ex (cxOf (CX1 P w) P w K mg base N qual scope f cd A outer s0 H0 E).env) (EP (cxOf (CX1 P w) P w K mg base N qual scope f cd A outer s0 H0 E) pins σ λv H2=>∃a t d,v=.ref a/\s0.heap.get? a=none/\H2 a=some (exN a C t d)/\E (.ref C) d (drop H2 a)) (cxOf (CX1 P w) P w K mg base N qual scope f cd A outer s0 H0 E).xe s) :
  Aq (Ap P w) (cxOf (CX1 P w) P w K mg base N qual scope f cd A outer s0 H0 E).A (exec (.Raise (some ex) none pos) (cxOf (CX1 P w) P w K mg base N qual scope f cd A outer s0 H0 E).env) Q (cxOf (CX1 P w) P w K mg base N qual scope f cd A outer s0 H0 E).xe s:=by
 rw[arm_exec_Raise];refine Ac (De (zf5 (I.ok.hd rfl) (Ac (BR he (λv s1 ⟨x,H2,I1,rx,a,t,d,ex,hnew,ea,q⟩=>Ac (De (As ?_))) λ_ _ z=>z))));subst ex;obtain rfl:v=AM a:=rx;obtain⟨bm,ns,nm,qn,bs,hdd,sn,sub,ab,col,dd,k0,k1,k2,k3,k5,mN,hC,hN,hni,T⟩:=zhg I1.kIn M.ex;obtain⟨e1,_⟩:=I1.hok a _ ea;exact⟨a,t,d,C,_,_,_,_,_,_,_,_,_,_,_,_,_,_,_,_,_,rfl,T.hasType FB.hasBase,hC,e1,xe_of (o:={ cls:=.ref C,dict:=d,data:=.fields #[.ref t,.none,.none,.none,.bool false,.none] }) (I1.forget ea) e1 rfl zcy hnew q⟩
theorem zgR{C fI:Addr}{bB:List Value}{nw Bn it:String}{k:Nat}{fd:A5}{ps:List Str}{sp:Sp}{x:Str}{np cpos pos:Pos}{e:Expr}{es:List Expr}{t:TA}{R:List V -> Hp -> Prop}(FB:C4 Bn nw it bB)(M:MkX K C fI bB nw)(F:FnOk P w K mg base (CX1 P w) k fI fd ps sp)
  (hR:∀vs H1,R vs H1->vs.length<=1000/\∀x tp,H1 x=none->sp (.ref x::vs) (upd H1 x (exN x C tp none)) (λv H2=>v=.non/\∃t d,H2 x=some (exN x C t d)/\E (.ref C) d (drop H2 x)) (λ_ _ _=>False))
  (hm':∀vs H Q Q' E,(∀v H',Q v H'->Q' v H')->sp vs H Q E->sp vs H Q' E) (hr:Room (k+1) (cxOf (CX1 P w) P w K mg base N qual scope f cd A outer s0 H0 E).A) (hb:Binds K fd ps []) (hg:Gl (cxOf (CX1 P w) P w K mg base N qual scope f cd A outer s0 H0 E) x) (hm:mg x=some (.ref C))
  (ha:PA (cxOf (CX1 P w) P w K mg base N qual scope f cd A outer s0 H0 E) (e::es) t) (hdb:(x == ("__debug__" : Str))=false:=by decide)
  (he:AA (e::es) (cxOf (CX1 P w) P w K mg base N qual scope f cd A outer s0 H0 E).env=(false,eval e (cxOf (CX1 P w) P w K mg base N qual scope f cd A outer s0 H0 E).env)::AA es (cxOf (CX1 P w) P w K mg base N qual scope f cd A outer s0 H0 E).env:=by rfl)
  (hpl:(CB cpos (AA es (cxOf (CX1 P w) P w K mg base N qual scope f cd A outer s0 H0 E).env)).any (·.1)=false:=by rfl) :
  PS (cxOf (CX1 P w) P w K mg base N qual scope f cd A outer s0 H0 E) (.Raise (some (.Call (.Name x np) (e::es) [] cpos)) none pos) (λ_ σ H=>t σ H R):=by
 intro pins s σ H D I h;refine zjI FB M I (BF (zcF I hg hm ?_ hdb));refine W.callWith_K (h₀:=base) I.ok.mod.kin M.kp (thn (ha cpos pins s σ H _ I h) λus s1 ⟨vs,H1,I1,r,q⟩=>⟨I1.kIn,?_⟩) he hpl;have q:=hR _ _ q;refine zgL FB M F hr hb (pass1 λ_ _ _ z=>z.elim) I1 r q.1 λy tp hy hn=>hm' _ _ _ _ _ (λv H2 z=>⟨z.1,y,?_⟩) (q.2 y tp hy)
 obtain⟨_,t,d,q1,q2⟩:=z;exact⟨t,d,rfl,hn,q1,q2⟩
end
noncomputable def spI(C:Addr)(fs:List Str):Sp:=λvs H Q _=>∃x t ws,vs=.ref x::ws/\ws.length=fs.length/\H x=some (exN x C t none)/\∀d,H d=none->d≠x->Q .non (upd (upd H x (exN x C t (some d))) d (xdO d (fs.zip ws)))
structure ExA (P:Am) (w:AB) (K:W.Frag) (mg:Str->Option Value) (base:Heap) (x:Str) (C:Addr) (fs:List Str) where
 f:Addr
 fd:A5
 ps:List Str
 B:String
 nw:String
 it:String
 bB:List Value
 FB:C4 B nw it bB
 M:MkX K C f bB nw
 ok:FnOk P w K mg base (CX1 P w) 1 f fd ps (spI C fs)
 b:Binds K fd ps []
 m:mg x=some (.ref C)
 z:fs.length<=1000
noncomputable def zgw(C:Addr)(fs:List Str)(t:TA)(E:XK):TS:=λ_ σ H=>t σ H λvs H1=>vs.length=fs.length/\∀d,H1 d=none->E (.ref C) (some d) (upd H1 d (xdO d (fs.zip vs)))
section
variable {P:Am}{w:AB}{K:W.Frag}{mg:Str->Option Value}{base:Heap}{N:List Str}{qual:Str}{scope:Scope}{f:Addr}{cd:Value}{A:Aw}{outer:List Env}{s0:Ab}{H0:Hp}{E:XK}
theorem zcs{C:Addr}{fs:List Str}{k:Nat}{x:Str}{np cpos pos:Pos}{e:Expr}{es:List Expr}{t:TA}(g:ExA P w K mg base x C fs)(hr:Room k (cxOf (CX1 P w) P w K mg base N qual scope f cd A outer s0 H0 E).A)
  (ha:PA (cxOf (CX1 P w) P w K mg base N qual scope f cd A outer s0 H0 E) (e::es) t) (hk:2<=k:=by decide) (hg:Gl (cxOf (CX1 P w) P w K mg base N qual scope f cd A outer s0 H0 E) x:=by rfl) (hdb:(x == ("__debug__" : Str))=false:=by decide)
  (he:AA (e::es) (cxOf (CX1 P w) P w K mg base N qual scope f cd A outer s0 H0 E).env=(false,eval e (cxOf (CX1 P w) P w K mg base N qual scope f cd A outer s0 H0 E).env)::AA es (cxOf (CX1 P w) P w K mg base N qual scope f cd A outer s0 H0 E).env:=by rfl)
  (hpl:(CB cpos (AA es (cxOf (CX1 P w) P w K mg base N qual scope f cd A outer s0 H0 E).env)).any (·.1)=false:=by rfl) :
  PS (cxOf (CX1 P w) P w K mg base N qual scope f cd A outer s0 H0 E) (.Raise (some (.Call (.Name x np) (e::es) [] cpos)) none pos) (zgw C fs t E):=by
 refine zgR g.FB g.M g.ok (λvs H1 ⟨q1,q2⟩=>⟨q1 ▸ g.z,λx tp hx=>⟨x,tp,vs,rfl,q1,zaa,λd hd ne=>⟨rfl,tp,some d,?_,?_⟩⟩⟩) (λvs H Q Q' E' hi ⟨x,t,ws,q1,q2,q3,q4⟩=>⟨x,t,ws,q1,q2,q3,λd hd ne=>hi _ _ (q4 d hd ne)⟩) (hr.mono hk) g.b hg g.m ha hdb he hpl
 .rw[zam (BJ ne),zaa]
 .rw[zam ne]at hd;rw[zgo,zh5 hx ne];exact q2 d hd
end
section
variable {prog:Am}{w:AB}{A:Aw}{E:Value->Ab->Prop}{s:Ab}{K:W.Frag}{a D d:Addr}{u:Obj}{od:Option Obj}
theorem zji{name:Str}{v:Value}(X:K.In s.heap)(I:CU s.heap a u D od)(hf:W.findObj K D od name=some (.value v)){tk:Tok}{Q:Fin -> Ab -> Prop}
  (h:Q (.done (.ret v)) s):Aq (Ap prog w) A (Builtin.«object.__getattribute__» ⟨[.ref a,.str name tk],[]⟩) Q E s:=by
 have L0:=I.type (M:=Ap prog w);have L1:=W.looks_find (M:=Ap prog w) X I hf;refine Ac (As (Ac (As (Ac (L0.here (Ac (L1.here ?_)))))));exact As h
theorem zjk {name:Str}{v:Value}{expr:Bool}(X:K.In s.heap) (I:CU s.heap a u D od) (hga:Bl K (.ref D) "__getattribute__" = some (some (.builtin "BaseException.__getattribute__"))) (hgb:Bl K (.ref D) "__getattr__" = some none)
  (hb:W.subIn K (.ref D) (.type "BaseException")=some true) (hf:W.findObj K D od name=some (.value v)) (hv:W.handedIn v=true) {Q:Value->Ab->Prop}
  (h:Q v { s with toks:=s.toks+1 }):Aq (Ap prog w) A (getAttr (.ref a) name expr) Q E s:=by
 obtain⟨hh,g,d,t,os⟩:=s;have L0:=I.type (M:=Ap prog w);have L1:=W.looks_findIn (M:=Ap prog w) X hga;have L2:=W.looks_findIn (M:=Ap prog w) X hgb;unfold getAttr getAttrBy;refine Ac (wpAny_mkText (Bw (Ac (L0.at (Ac (L1.at ?_))))));show Aq _ _ (getAttrByItsOwn (.ref a) _ (.ref D) (.builtin "BaseException.__getattribute__") true expr) _ _ _;unfold getAttrByItsOwn;refine Ac (show Aq _ _ (typeLookup (.ref D) "__getattr__") _ _ _ from L2.at ?_);refine Ac (wpAny_attempt (Bw ?_));have hcg:∀n,callGetattribute (.ref a) n (.builtin "BaseException.__getattribute__") expr=boundAndCalled (.builtin "BaseException.__getattribute__") (.ref a) n:=λn=>by cases expr <;> rfl
 rw[hcg];unfold boundAndCalled;refine Ac (Cd (PySem.F.attr_ValueError.ga.bind _) ?_);refine wpAny_call (ziz (s:=⟨hh,g,d,t+1,os⟩) X I hb (zji (s:=⟨hh,g,d,t+1,os⟩) X I hf ?_));exact W.handed_on hv h
end
noncomputable def zfe(a D d:Addr)(h:Heap):Prop:=∃u,h.get? a=some u/\u.cls=.ref D/\u.dict=some d/\(∃vs,u.data=.fields vs)/\∃mA,h.Ns1 d mA
theorem zfe.inst{K:W.Frag}{h:Heap}{a D d:Addr}:zfe a D d h->∃u od,CU h a u D (some od):=λ⟨u,hu,hc,hd,⟨vs,hv⟩,mA,hn⟩=>by obtain⟨od,ho,_⟩:=zcx hn;exact⟨u,od,hu,hc,by unfold W.notCls;rw[hv],by rw[hd];exact ho⟩
theorem zg7{K:W.Frag}{a D d:Addr}(C:ExcC K D):W.KitX K (.ref a) (.ref D) (zfe a D d) where
 ty:=λM h _ ⟨u,hu,hc,_⟩=>hc ▸ (W.Looks.ld hu).andThen .now
 it:=λM h X _=>by
  obtain⟨cd,hc,_⟩:=W.any_some C.hd;unfold W.clsIn at hc;split at hc
  .rename_i ho
   intro A' Q' E' s' k q;unfold isType loadHead;exact Ac (wpAny_loadPart (k _ _ (X _ _ ho)) (As q))
  .cases hc
 ne:=(zhY (a:=a) C).ne
 ca:=λ{prog w A E Q s} X p k=>by
  obtain⟨u,od,I⟩:=zfe.inst (K:=K) p
  have hf:W.findObj K D (some od) "__class__" = some (.bind (.builtin "getset_descriptor.__get__") (.builtin "object.__class__")):=by obtain⟨cd,q,_⟩:=W.any_some C.hd;have e1:=C.ha;have e2:=C.hn;have e3:=C.ht;simp[W.findObj,q,e1,e2,e3]
  exact ziA X I C.hga C.hgb C.hb hf C.hm k
section
variable {X:Cx}{pins:List (Addr×Obj)}{σ:St}{H:Hp}{s:Ab}{a D d:Addr}{fs:List (Str×V)}
theorem zjn(I:Inv X pins σ H s)(ha:H a=some (excO a (.ref D) (some d)))(hd:H d=some (xdO d fs)):zfe a D d s.heap:=by obtain⟨⟨u,q1,q2,q3,q4⟩,_⟩:=I.hok a _ ha;obtain⟨⟨mA,m1,_⟩,_⟩:=I.hok d _ hd;exact⟨u,q1,q2,q3,q4,mA,m1⟩
theorem zgj:CallR X (.builtin "isinstance") (λxs H Q=>∃a D d fs c v b,xs=[.ref a,c]/\H a=some (excO a (.ref D) (some d))/\H d=some (xdO d fs)/\RelV c v/\(∀u,RelV c u->u=v)/\ExcC X.K D/\W.kitOne X.K (.ref D) v=some b/\Q (.bl b) H):=by
 intro pins s σ H xs us Q I r h;obtain⟨a,D,d,fs,c,v,b,rfl,ha,hd,rc,un,C,hk,q⟩:=h;obtain⟨u1,u2,rfl,r1,r2⟩:=Vals.two r
 cases r1
 cases un _ r2
 exact Cw (zg7 C) I.kIn (zjn I ha hd) hk (λz=>nomatch z) λtk=>⟨.bl b,H,I.tok tk,rfl,q⟩
theorem zdp {K:W.Frag}(hK:X.K=K:=by rfl):CallR X (.builtin "isinstance") (λxs H Q=>∃a D d fs c v b,xs=[.ref a,c]/\H a=some (excO a (.ref D) (some d))/\H d=some (xdO d fs)/\RelV c v/\(∀u,RelV c u->u=v)/\ExcC K D/\W.kitOne K (.ref D) v=some b/\Q (.bl b) H):=by subst hK;exact zgj
noncomputable def tXFld(K:W.Frag)(ta:TE)(f:Str):TE:=λσ H Q=>ta σ H λx H1=>∃a D d fs v,x=.ref a/\H1 a=some (excO a (.ref D) (some d))/\H1 d=some (xdO d fs)/\ExcC K D/\zcV K D f/\fs.lookup f=some v/\Q v H1
theorem zi2{e:Expr}{f:Str}{pos:Pos}{ta:TE}(he:PE X e ta)(hb:Dd e f X.env (eval e X.env)=eval e X.env):PE X (.Attribute e f pos) (tXFld X.K ta f):=by intro pins s σ H Q I h;refine zjq hb (thn (he pins s σ H _ I h) λu s1 ⟨x,H1,I1,rx,a,D,d,fs,v,ex,ea,ed,C,n,l,q⟩=>?_);subst ex;obtain rfl:u=AM a:=rx;obtain⟨⟨u0,q1,q2,q3,vs,q4⟩,_⟩:=I1.hok a _ ea;obtain⟨⟨mA,m1,r,_⟩,_⟩:=I1.hok d _ ed;obtain⟨od,ho,hl⟩:=zcx m1;obtain⟨w,hw,rw_⟩:=RelO.some_of (v:=v) (o:=mA f) (by rw[<- l];exact r f);have J:CU s1.heap a u0 D (some od):=⟨q1,q2,by unfold W.notCls;rw[q4],by rw[q3];exact ho⟩;exact zjk I1.kIn J C.hga C.hgb C.hb (W.findObj_own C.hd n rfl (by rw[hl,hw])) (zhe rw_) ⟨v,H1,I1.tok _,rw_,q⟩
theorem zfL{K:W.Frag}{e:Expr}{f:Str}{pos:Pos}{ta:TE}(he:PE X e ta)(hb:Dd e f X.env (eval e X.env)=eval e X.env:=by rfl)(hK:X.K=K:=by rfl):PE X (.Attribute e f pos) (tXFld K ta f):=by subst hK;exact zi2 he hb
end
section
variable {X:Cx}{pins:List (Addr×Obj)}{B:Heap}{a:Addr}{o:Obj}{vs:Array Value}{s5 s2:Ab}{σ' σ2:St}{H' H2:Hp}{body suite:List Stmt}{b0:Stmt}{n tn:Str}{i:Nat}{T:Addr}{E:XK}{tb ts:TS}{np hpos pos:Pos}{D:Ends}{rest:List ExceptHandler}{b:Bool}
theorem zeT(ok:X.Ok)(hex:X.ex = [])(F5:Fly B (X.env :: X.outer) a o vs .none s5.heap)(at5:∀h', B.StaysIn h' -> s5.heap.UpToSlots h' -> Inv X pins σ' H' { s5 with heap := h' })(J:Inv X pins σ2 H2 s2)(hnew:s2.heap.get? a=none)(hn:H' a=none)
  (hs:∀a,PSs (X.held a) (b0::suite) ts) (hg:Gl X tn) (hm:X.mg tn=some (.ref T)) (hN:X.N.Nodup) (hi:X.N[i]?=some n) (hl:X.env.scope.names.lookup n=some .local) (hE:W.exmOne X.K o.cls (.ref T)=some b)
  (yes:b=true->ts (D.drop i) (σ'.set i (some (.ref a))) (upd H' a (excO a o.cls o.dict))) (no:b=false->Aq (Ap X.prog X.w) X.A (handleBy (.ref a) X.env rest) (SP X pins D) X.xe s5) (hdb:(tn == ("__debug__" : Str))=false:=by decide) :
  Aq (Ap X.prog X.w) X.A (handleBy (.ref a) X.env (.ExceptHandler (some (.Name tn np)) (some n) (b0::suite) hpos::rest)) (SP X pins D) X.xe s5:=by
 have J5:=at5 s5.heap F5.stay λb u q _=>⟨u.slots,q⟩
 obtain⟨T5,_,_,e5,_⟩:=id F5.tb;refine wpAny_handleBy_cons (codeAny_handlers_test (zcF (X:=X.held a) J5.held hg hm ?_ hdb)) (by intro q;cases q);refine (W.exm_one J5.kIn ((W.Looks.ld e5).andThen .now) hE).here ?_
 cases b with
 |false=>exact no rfl
 |true =>
 refine codeAny_handlers_suite_as ?_
 refine zb6 (s:=s5) F5 λh6 F6 k6=>?_
 have J6:=at5 h6 F6.stay k6;obtain⟨T6,_,_,e6,_⟩:=id F6.tb
 have J6':Inv (X.held a) pins σ' (upd H' a (excO a o.cls o.dict)) { s5 with heap:=h6 } :=
  (J6.track (u:=excO a o.cls o.dict) J hex hn hnew ⟨⟨_,e6,rfl,rfl,_,rfl⟩,⟨_,e6⟩,λh1 h2 ⟨u,hu,q⟩ k=>⟨u,k u hu,q⟩⟩).held
 refine zc1 (X:=X.held a) (v:=.ref a) J6' hN hi (.inl hl) rfl (λs7 J7=>?_) (.inr hl);refine BR (hs a pins s7 _ _ (D.drop i) J7 (yes rfl)) (λfl s8 q=>?_) (λ_ _ z=>Bj z);have go:∀{σ2:St} {H2:Hp} (Q:Unit->Ab->Prop),Inv (X.held a) pins σ2 H2 s8->(∀s',Inv X pins (σ2.set i none) H2 s'->Q () s')->Aq (Ap X.prog X.w) X.A (do bindName X.env n .none;unbindBehindTheSuite X.env n hpos) Q X.xe s8:=λQ I8 k=>zhV (Inv.unheld ok I8) hN hi hl k
 cases fl with
 |next=>obtain⟨σ2,H2,I8,q⟩:=q;exact go _ I8 λs' I9=>⟨_,_,I9,q⟩
 |brk=>obtain⟨σ2,H2,I8,q⟩:=q;exact go _ I8 λs' I9=>⟨_,_,I9,q⟩
 |cont=>obtain⟨σ2,H2,I8,q⟩:=q;exact go _ I8 λs' I9=>⟨_,_,I9,q⟩
 |ret u=>obtain⟨v,σ2,H2,I8,r,q⟩:=q;exact go _ I8 λs' I9=>⟨v,_,_,I9,r,q⟩
end
section
variable {X:Cx}{body suite suite2:List Stmt}{b0 b1:Stmt}{n tn tn2:Str}{i:Nat}{T T2:Addr}{E:XK}{tb ts t2:TS}{np np2 hpos hpos2 pos:Pos}
end
section
variable {X:Cx}
theorem times_len(x:Str):∀n,(zaZ x n).length=x.length*n:=by
 have h:∀(n:Nat) (a:Array Nat),(List.foldl (λa b=>a++b) a (Ay n x.cps)).size=a.size+x.cps.size*n:=by
  intro n
  induction n with
  |zero=>intro a;simp
  |succ n ih=>intro a;rw[BB,List.foldl_cons,ih,Array.size_append,Nat.mul_succ];lia
 intro n;have:=h n #[];show (List.foldl (λa b=>a++b) #[] (Ay n x.cps)).size=x.cps.size*n;rw[this];simp
theorem zd6:OpR X (Cu .Mult) (λx y H Q=>∃a n,x=.str a/\y=.int n/\0<=n/\a.length*n.toNat<=sizeLine/\n<2 ^ 62/\Q (.str (zaZ a n.toNat)) H):=by
 intro pins s σ H x y v u Q I rx ry h;obtain⟨a,n,rfl,rfl,h0,hz,hn,q⟩:=h;obtain⟨t,rfl⟩:=rx;obtain⟨t',rfl⟩:=ry;have hl:=zdi
 have hbig:¬ n<1->(n == 1 ||a.length == 0)=false->¬ (a.length:Int) > (2 ^ 63-1) / n:=λh1 _ z=>by
  have hp:0<n:=by lia
  have e:(a.length:Int)*n<=2 ^ 63-1:=by
   have:((a.length*n.toNat:Nat):Int)=(a.length:Int)*n:=by rw[Int.natCast_mul,Int.toNat_of_nonneg h0]
   lia
  have:=(Int.le_ediv_iff_mul_le hp).mpr e;lia
 refine PySem.P.mul_str (by rw[decide_eq_false (by lia),decide_eq_false (by lia)];rfl) hbig (λ_ _=>by unfold Builtin.Str.tooLong;exact decide_eq_false (by lia)) ?_
 by_cases h1:n<1
 .rw[if_pos h1];have e:n.toNat=0:=by lia
  rw[e]at q;exact⟨by show 0<=_;exact A1 _,.str Str.empty,H,I.tok _,⟨_,rfl⟩,q⟩
 .rw[if_neg h1]
  by_cases h2:(n == 1 ||a.length == 0)=true
  .rw[if_pos h2]
   have e:zaZ a n.toNat=a:=by
    rcases Bool.or_eq_true _ _ |>.mp h2 with z |z
    .have:n=1:=by simpa using z
     subst this;obtain⟨c⟩:=a;show (⟨#[]++c⟩:Str)=⟨c⟩;rw[Array.empty_append]
    .have hc:a.length=0:=by simpa using z
     have:=times_len a n.toNat
     rw[hc,Nat.zero_mul]at this;have e0:∀b:Str,b.length=0->b=Str.empty:=λb hb=>zfg (by simpa using hb)
     rw[e0 _ this,e0 _ hc]
   rw[e]at q;exact⟨.str a,H,I,⟨_,rfl⟩,q⟩
  .rw[if_neg h2];refine⟨?_,.str _,H,I.tok _,⟨_,rfl⟩,q⟩;show (zaZ a n.toNat).length<=_;rw[times_len];exact hz
end
structure Rds3 (P:Am) (w:AB) (K:W.Frag) (mg:Str->Option Value) (fs fn fr:Addr):Prop where
 ex:∃(B:Addr) (t1 t3 t5:Tok) (n:Nat),mg "READERS" = some (.ref B)/\K.lookup B=some ⟨.type "dict",none,.dict #[⟨Bi w.params "sort",.str "sort" t1,.ref fs⟩,⟨Bi w.params "number",.str "number" t3,.ref fn⟩,⟨Bi w.params "row",.str "row" t5,.ref fr⟩] n,#[]⟩
noncomputable def tRds3 (fs fn fr:Addr) (ti:TE):TE:=λσ H Q=>ti σ H λy H1=>(y=.str "number" /\ Q (.ref fn) H1)∨(y=.str "sort" /\ Q (.ref fs) H1)∨(y=.str "row" /\ Q (.ref fr) H1)
theorem zi3 {X:Cx}{fs fn fr:Addr}{i:Expr}{ti:TE}{p pos:Pos}(hg:Gl X "READERS") (hw:Rds3 X.prog X.w X.K X.mg fs fn fr) (hi:PE X i ti) (hs:NoSl i:=by exact λ_ _=>rfl):PE X (.Subscript (.Name "READERS" p) i pos) (tRds3 fs fn fr ti):=by
 intro pins s σ H Q I h;obtain⟨B,t1,t3,t5,n,hm,hl⟩:=hw.ex;refine ziJ PySem.F.slot_dict_getitem.lookup hs (thn ((zbD (v:=.ref B) hg hm rfl:PE X (.Name "READERS" p) _) pins s σ H (λv H1=>v=V.ref B/\H1=H) I ⟨rfl,rfl⟩) λu s1 ⟨x,H1,I1,rx,q1⟩=>?_);obtain⟨rfl,rfl⟩:=q1;obtain rfl:u=AM B:=rx;refine thn (hi pins s1 σ H1 _ I1 h) λiv s2 ⟨y,H2,I2,ry,q2⟩=>?_
 have ho:s2.heap.get? B=some _:=I2.kIn B _ hl
 have mo:s2.heap.MapOf (zaP X.prog X.w) B (PySem.findBy (zaP X.prog X.w).is #[⟨Bi X.w.params "sort",.str "sort" t1,.ref fs⟩,⟨Bi X.w.params "number",.str "number" t3,.ref fn⟩,⟨Bi X.w.params "row",.str "row" t5,.ref fr⟩]) :=
  ⟨_,_,_,ho,⟨rfl,rfl,rfl⟩,rfl,λe he=>by
   simp only[List.mem_toArray,List.mem_cons,List.not_mem_nil,or_false]at he;rcases he with rfl |rfl |rfl
   .exact⟨.inr "sort",zbO _ _ _ _,rfl⟩
   .exact⟨.inr "number",zbO _ _ _ _,rfl⟩
   .exact⟨.inr "row",zbO _ _ _ _,rfl⟩,λ_=>rfl⟩
 refine⟨⟨_,ho,rfl⟩,?_⟩;rcases q2 with⟨rfl,q⟩ |⟨rfl,q⟩ |⟨rfl,q⟩
 .exact wpAny_getItem_of (kV_is (k:=.inr "number") ry) mo (v:=.ref fn) rfl ⟨.ref fn,H2,I2.tok _,rfl,q⟩
 .exact wpAny_getItem_of (kV_is (k:=.inr "sort") ry) mo (v:=.ref fs) rfl ⟨.ref fs,H2,I2.tok _,rfl,q⟩
 .exact wpAny_getItem_of (kV_is (k:=.inr "row") ry) mo (v:=.ref fr) rfl ⟨.ref fr,H2,I2.tok _,rfl,q⟩
end L2
namespace RP
open PySem PyProof.Rows L2
noncomputable abbrev cl(x:Str):List Nat:=x.cps.toList
theorem ze0{x y:Str}(h:cl x=cl y):x=y:=by obtain⟨a⟩:=x;obtain⟨b⟩:=y;have:a=b:=Array.toList_inj.mp h;rw[this]
theorem zap(x:Str):(cl x).length=x.length:=by simp[Str.length]
theorem ziE(a b:Str):cl (a++b)=cl a++cl b:=by obtain⟨c⟩:=a;obtain⟨d⟩:=b;show (c++d).toList=_;simp
theorem zdH{x:Str}{k:Nat}(h:k<=x.length):cl (Bd x (some (k:Int)) none)=(cl x).drop k:=by
 show cl (StrLaws.sliceText x (some (k:Int)) none)=_;have hl:=zap x;rw[StrLaws.sliceText_from ⟨by lia,by show (k:Int)<=((cl x).length:Int);lia⟩];show ((List.take _ (List.drop (k:Int).toNat (cl x))).toArray).toList=_;rw[List.toList_toArray,BY];refine AL ?_
 rw[AC];show _<=(((cl x).length:Int)-k).toNat
 lia
theorem zc7(x:Str)(k:Nat)(h:x.length=0)(lo hi:Option Int):Bd x lo hi=x:=by
 have:=Txt.slice_le x lo hi;refine ze0 ?_
 have e1:cl x=[]:=BI.mp (by rw[zap];exact h);have e2:cl (Bd x lo hi)=[]:=BI.mp (by rw[zap];lia);rw[e1,e2]
theorem zgH(x:Str):cl (Bd x (some 1) none)=(cl x).drop 1:=by
 rcases BU x.length with h |h
 .rw[zc7 x 0 h];have e1:cl x=[]:=BI.mp (by rw[zap];exact h);rw[e1];rfl
 .exact zdH (k:=1) h
theorem zc6(x:Str):cl (Bd x none (some 1))=(cl x).take 1:=by
 rcases BU x.length with h |h
 .rw[zc7 x 0 h];have e1:cl x=[]:=BI.mp (by rw[zap];exact h);rw[e1];rfl
 .show cl (StrLaws.sliceText x none (some 1))=_;have hl:=zap x;rw[StrLaws.sliceText_to ⟨by decide,by show (1:Int)<=((cl x).length:Int);lia⟩];show ((List.take _ (List.drop 0 (cl x))).toArray).toList=_;rw[List.toList_toArray];rfl
theorem zdG(x:Str):cl (Bd x (some (-1)) none)=(cl x).drop (x.length-1):=by
 rcases BU x.length with h |h
 .rw[zc7 x 0 h];have e1:cl x=[]:=BI.mp (by rw[zap];exact h);rw[e1,List.drop_nil]
 .show cl (StrLaws.sliceText x (some (-1)) none)=_;have hl:=zap x;rw[StrLaws.sliceText_from_neg (by decide) (by lia)];show ((List.take _ (List.drop ((-1:Int)+x.length).toNat (cl x))).toArray).toList=_;rw[List.toList_toArray,show ((-1:Int)+x.length).toNat=x.length-1 by lia];refine AL ?_
  rw[AC];show _<=(((cl x).length:Int)-(-1+x.length)).toNat
  lia
theorem zdF(x:Str)(c:Nat):Txt.startswith x ⟨#[c]⟩=true ↔ (cl x).head?=some c:=by
 unfold Txt.startswith
 rw[AX,decide_eq_true_eq];have:=StrLaws.subAt_one x c 0;rw[this];exact⟨λh=>by rw[List.head?_eq_getElem?];exact h,λh=>by rw[List.head?_eq_getElem?]at h;exact h⟩
theorem zcu(x:Str)(c:Nat):occN x ⟨#[c]⟩=(cl x).count c:=by
 unfold occN;rw[StrLaws.occ_eq]
 have key:∀(n a:Nat) (st:Array Nat×Nat),a+n=x.length+1->st.2<=a->st.1.size<=a->((forIn (m:=Id) (List.range' a n) st (StrLaws.occBody x ⟨#[c]⟩ x.length (x.length+1))).run.1.size=st.1.size+((cl x).drop a).count c):=by
  intro n
  induction n with
  |zero =>
   intro a st ha _ _;have:(cl x).drop a=[]:=Bf (by rw[zap];lia);rw[this];rfl
  |succ n ih =>
   intro a st ha h2 h1;have hs:=StrLaws.subAt_one x c a;rw[List.range'_succ,List.forIn_cons];unfold StrLaws.occBody
   by_cases hc:(cl x)[a]?=some c
   .obtain⟨k1,k2⟩:=hs.mpr hc;rw[if_pos ⟨⟨⟨by lia,h2⟩,k1⟩,k2⟩];have ih':=ih (a+1) (st.1.push a,a+1) (by lia) (Ai _) (by simp;lia)
    have hd:(cl x).drop a=c::(cl x).drop (a+1):=by have hlt:=(Aj.mp hc).1;rw[BP hlt,(Aj.mp hc).2]
    rw[hd,List.count_cons_self];show (forIn (m:=Id) (List.range' (a+1) n) (st.1.push a,a+1) _).run.1.size=_;refine Eq.trans ih' ?_
    simp;lia
   .rw[if_neg (λz=>hc (hs.mp ⟨z.1.2,z.2⟩))];have ih':=ih (a+1) (st.1,st.2) (by lia) (by show st.2<=a+1;lia) (by show st.1.size<=a+1;lia)
    have hd:((cl x).drop a).count c=((cl x).drop (a+1)).count c:=by
     rcases B8 a (cl x).length with q |q
     .rw[BP q,List.count_cons_of_ne];intro e;exact hc (by rw[Ad q,e])
     .rw[Bf q,Bf (by lia)]
    rw[hd];exact ih'
 have:=key (x.length+1) 0 (#[],0) (by lia) (Ai _) (Ai _);rw[CY]at this;rw[Nat.sub_zero,Cs];refine Eq.trans this ?_
 simp
noncomputable def digB(c:Nat):Bool:=decide (48<=c) && decide (c<=57)
theorem zhk (c:Nat):decide (c∈cl (Aa "0123456789"))=digB c:=by
 have e:cl (Aa "0123456789")=[48,49,50,51,52,53,54,55,56,57]:=by decide +kernel
 rw[e];unfold digB;rw[<- Bool.decide_and];refine decide_eq_decide.mpr ?_
 simp only[List.mem_cons,List.not_mem_nil,or_false];have far:∀c<58,48<=c->(c=48∨c=49∨c=50∨c=51∨c=52∨c=53∨c=54∨c=55∨c=56∨c=57):=by decide
 exact⟨λh=>by rcases h with rfl |rfl |rfl |rfl |rfl |rfl |rfl |rfl |rfl |rfl <;> exact⟨by decide,by decide⟩,λh=>far c (Nat.lt_succ_of_le h.2) h.1⟩
theorem zft{l:List Nat}:l.all digB=true ↔ BZ l:=by rw[List.all_eq_true];unfold BZ digB;exact⟨λh c hc=>by have:=h c hc;simpa using this,λh c hc=>by have:=h c hc;simpa using this⟩
noncomputable def figOf(l:List Nat):List Nat:=if l.head?=some 45 then l.drop 1 else l
noncomputable def zcv(l:List Nat):Bool:=!(figOf l).isEmpty && ((figOf l).all digB && (decide ((figOf l).length<=30) && (decide (l=[48]) ||decide ((figOf l).head?≠some 48))))
noncomputable def zby(l:List Nat):Int:=if l.head?=some 45 then -((Bc (l.drop 1):Nat):Int) else ((Bc l:Nat):Int)
theorem zeS{x:Str}(h0:figOf (cl x)≠[])(hd:BZ (figOf (cl x)))(hl:(figOf (cl x)).length<=30):intText? x=some (zby (cl x))/\x.length<=640:=by
 unfold figOf at h0 hd hl;unfold zby;have hxl:=zap x
 by_cases hh:(cl x).head?=some 45
 .rw[if_pos hh]at h0 hd hl ⊢
  obtain⟨cs,hcs⟩:∃cs,cl x=45::cs:=by
   cases q:cl x with
   |nil=>rw[q]at hh;cases hh
   |cons c cs=>rw[q]at hh;cases hh;exact⟨cs,rfl⟩
  rw[hcs]at h0 hd hl hxl ⊢;simp only[List.drop_succ_cons,CY,AD]at h0 hd hl hxl ⊢;exact⟨intText_neg hcs hd h0 (by lia),by lia⟩
 .rw[if_neg hh]at h0 hd hl ⊢;exact⟨intText_digits hd h0 (by lia),by lia⟩
theorem ziK(n:Nat):cl (Aa (Cf (n:Int)))=(Nat.toDigits 10 n).map Char.toNat:=by
 show (Aa (Cf (n:Int))).cps.toList=_;rw[signs_ofString]
 congr 1
 show (Nat.repr n).toList=_;unfold Nat.repr;simp
theorem zgi{l:List Nat}(h:BZ l):(l.map Char.ofNat).map Char.toNat=l:=by
 rw[List.map_map];refine (Da λc hc=>?_).trans (List.map_id l);obtain⟨h1,h2⟩:=h c hc;have:c=48∨c=49∨c=50∨c=51∨c=52∨c=53∨c=54∨c=55∨c=56∨c=57:=by lia
 rcases this with rfl |rfl |rfl |rfl |rfl |rfl |rfl |rfl |rfl |rfl <;> rfl
theorem zes:∀(n:Nat) (l:List Nat),l.length=n->BZ l->Bc l<10 ^ n:=by
 intro n
 induction n with
 |zero=>intro l hl _;rw[BI.mp hl];decide
 |succ n ih =>
  intro l hl hd;obtain⟨r,c,rfl⟩:∃r c,l=r++[c]:=⟨l.dropLast,l.getLast (by intro z;rw[z]at hl;cases hl),(List.dropLast_concat_getLast _).symm⟩;rw[NumText.digitsVal_snoc];rw[At,List.length_singleton]at hl;have:=ih r (by lia) (λd hm=>hd d (CT _ hm));have:=hd c (AY _ (List.mem_singleton_self c));rw[Nat.pow_succ];lia
theorem zcM{l:List Nat}(h0:l≠[])(hd:BZ l):cl (Aa (Cf ((Bc l:Nat):Int)))=l ↔ l=[48]∨l.head?≠some 48:=by
 obtain⟨c,r,rfl⟩:∃c r,l=c::r:=by cases l with |nil=>exact absurd rfl h0 |cons c r=>exact⟨c,r,rfl⟩
 have hc:=hd c (.head _);constructor
 .intro h
  by_cases hz:c=48
  .subst hz
   cases r with
   |nil=>exact .inl rfl
   |cons d t =>
    exfalso;have hv:=zes _ (d::t) rfl (λx hx=>hd x (.tail _ hx));rw[NumText.digitsVal_zero]at h;have hle:=toString_length_le (v:=((Bc (d::t):Nat):Int)) (by lia) (k:=(d::t).length) (Nat.succ_pos _) (by exact_mod_cast hv);have:=congrArg List.length h;rw[zap]at this;rw[this]at hle;simp only[AD]at hle;lia
  .right;intro z
   cases z
   exact hz rfl
 .intro h
  have hh:r.length=0∨∃c' r',c::r=c'::r'/\49<=c':=by
   rcases h with h |h
   .cases h;exact .inl rfl
   .refine .inr ⟨c,r,rfl,?_⟩;have:c≠48:=λz=>h (by rw[z];rfl)
    lia
  rw[ziK,NumText.toDigits_digitsVal r.length (c::r) rfl hd hh,zgi hd]
theorem zep{x:Str}(h0:figOf (cl x)≠[])(hd:BZ (figOf (cl x))):Aa (Cf (zby (cl x)))=x ↔ cl x=[48]∨(figOf (cl x)).head?≠some 48:=by
 rw[show (Aa (Cf (zby (cl x)))=x ↔ cl (Aa (Cf (zby (cl x))))=cl x) from ⟨λz=>by rw[z],ze0⟩];unfold figOf at h0 hd ⊢;unfold zby
 by_cases hh:(cl x).head?=some 45
 .rw[if_pos hh]at h0 hd ⊢;rw[if_pos hh]
  obtain⟨cs,hcs⟩:∃cs,cl x=45::cs:=by
   cases q:cl x with
   |nil=>rw[q]at hh;cases hh
   |cons c cs=>rw[q]at hh;cases hh;exact⟨cs,rfl⟩
  rw[hcs]at h0 hd ⊢;simp only[List.drop_succ_cons,CY]at h0 hd ⊢;have hw:=zcM h0 hd;rcases BU (Bc cs) with z |z
  .-- all noughts
   rw[z];constructor
   .intro h;have e:cl (Aa (Cf (-((0:Nat):Int))))=[48]:=by decide +kernel
    rw[e]at h
    cases h
   .rintro (h |h)
    .cases h
    .exfalso;obtain⟨c,r,rfl⟩:∃c r,cs=c::r:=by cases cs with |nil=>exact absurd rfl h0 |cons c r=>exact⟨c,r,rfl⟩
     have hc:=hd c (.head _);have:c≠48:=λq=>h (by rw[q];rfl)
     have:=NumText.digitsVal_pos (c:=c) (cs:=r) (by lia);lia
  .have e:cl (Aa (Cf (-((Bc cs:Nat):Int))))=45 :: cl (Aa (Cf ((Bc cs:Nat):Int))) := by
    have hn:-((Bc cs:Nat):Int)<0:=by lia
    rw[toString_neg hn,show (0:Int) - -((Bc cs:Nat):Int)=((Bc cs:Nat):Int) by lia];show (Aa ("-" ++ _)).cps.toList=45::(Aa _).cps.toList;rw[signs_ofString,signs_ofString,String.toList_append,Ak];rfl
   rw[e,List.cons_inj_right,hw];constructor
   .rintro (h |h)
    .subst h;exact absurd z (by decide)
    .exact .inr h
   .rintro (h |h)
    .cases h
    .exact .inr h
 .rw[if_neg hh]at h0 hd ⊢;rw[if_neg hh];exact zcM h0 hd
end RP
namespace L2
open PySem PyProof.Rows
noncomputable abbrev Cx.triedS(X:Cx)(pins:List (Addr×Obj))(E:St->XK):Cx:={ X with pn:=X.pn++pins,xe:=λe s'=>∃ps σ H s,Inv (X.pinned pins) ps σ H s/\CX1 X.prog X.w X.stack H s (E σ) e s' }
noncomputable def zhu(CX:CXT)(X:Cx)(E:St->XK):Prop:=∀(pins:List (Addr×Obj)) (σ:St) (H:Hp) (s:Ab) (e:Value) (s':Ab),Inv X pins σ H s->CX X.stack H s (E σ) e s'->X.xe e s'
section
variable {X:Cx}{pins:List (Addr×Obj)}{σ:St}{H:Hp}{s:Ab}{E:St->XK}
theorem Inv.triedS(I:Inv X pins σ H s):Inv (X.triedS pins E) [] σ H s:=⟨I.ok.pinned.wish _,I.os,I.bare,I.base,I.loc,I.cell,I.free,I.freeC,λp hp=>I.pin p (by simpa using hp),I.hok,I.len⟩
theorem Inv.untriedS{ps:List (Addr×Obj)}(I:Inv (X.triedS pins E) ps σ H s):Inv (X.pinned pins) ps σ H s:=Inv.unwish (X:=X.pinned pins) I
theorem SP.untriedS{D:Ends}{f:Flow}{ps:List (Addr×Obj)}(h:SP (X.triedS pins E) ps D f s):SP X pins D f s:=by
 cases f with
 |next=>obtain⟨σ',H',I,q⟩:=h;exact⟨σ',H',I.untriedS.unpnd,q⟩
 |brk=>obtain⟨σ',H',I,q⟩:=h;exact⟨σ',H',I.untriedS.unpnd,q⟩
 |cont=>obtain⟨σ',H',I,q⟩:=h;exact⟨σ',H',I.untriedS.unpnd,q⟩
 |ret u=>obtain⟨v,σ',H',I,r,q⟩:=h;exact⟨v,σ',H',I.untriedS.unpnd,r,q⟩
theorem zjQ:zhu (CX1 X.prog X.w) (X.triedS pins E) E:=by rintro ps σ H s e s' I ⟨a,H',B,o,vs,q1,q2,q3,q4,q5,q6,q7,h⟩;exact⟨ps,σ,H,s,I.untriedS,a,H',B,o,vs,q1,q2,q3,q4,q5,q6,q7,h⟩
end
section
variable {X:Cx}{CX:CXT}{k j:Nat}{f:Addr}{fd:A5}{ps:List Str}{sp:Sp}{dvs:List V}{ds:List Value}{E:St->XK}{x:Str}{p pos:Pos}{e:Expr}{es:List Expr}{t:TA}
theorem ziO{pins:List (Addr × Obj)}{σ : St}{H:Hp}{s:Ab}{Q:VK}{us:List Value}{vs:List V}{E:XK}(F:FnOk X.prog X.w X.K X.mg X.base CX k f fd ps sp)(hr:Room k X.A)(hb:Binds X.K fd ps ds)(hd:Vals dvs ds)(hx:∀e s', CX X.stack H s E e s' -> X.xe e s')
  (I:Inv X pins σ H s) (r:Vals vs us) (h:sp (vs++dvs) H Q E):Aq (Ap X.prog X.w) X.A (call (.ref f) us) (EP X pins σ Q) X.xe s:=by
 have r2:Vals (vs++dvs) (us++ds):=r.append hd;have hl:(us++ds).length=ps.length:=by rw[<- r2.length];exact F.len _ _ _ _ h
 refine wpAny_call (codeAny_mono (F.run X.A X.stack s H ⟨us,[]⟩ (us++ds) (vs++dvs) Q E hr I.env0 (hb s us I.kIn hl) r2 h) λr s' hq=>?_)
 cases r with
 |error e=>exact hx e s' hq
 |ok fl =>
  cases fl with
  |ret u=>exact I.after hq
  |next=>exact Bj hq
  |brk=>exact Bj hq
  |cont=>exact Bj hq
noncomputable def zjE(sp:Sp)(ds:List V)(E:St->XK)(t:TA):TE:=λσ H Q=>tCall sp ds (E σ) t σ H Q
theorem pCXS (g:FnX X.prog X.w X.K X.mg X.base k x ps sp) (hr:Room j X.A) (hx:zhu (CX1 X.prog X.w) X E) (ha:PA X (e :: es) t) (hj:k <= j := by decide) (hg:Gl X x := by rfl) (hdb:(x == ("__debug__" : Str))=false := by decide)
  (he:AA (e::es) X.env=(false,eval e X.env)::AA es X.env:=by rfl) (hpl:(CB pos (AA es X.env)).any (·.1)=false:=by rfl):PE X (.Call (.Name x p) (e::es) [] pos) (zjE sp [] E t):=by
 intro pins s σ H Q I h;refine BF (zcF I hg g.m ?_ hdb);refine W.callWith_K (h₀:=X.base) I.ok.mod.kin g.kp (thn (ha pos pins s σ H _ I h) λus s1 ⟨vs,H1,I1,r,q⟩=>⟨I1.kIn,?_⟩) he hpl;exact ziO g.ok (hr.mono hj) g.b .nil (λe s' z=>hx _ _ _ _ _ _ I1 z) I1 r q
end
noncomputable def zjz(i k:Nat)(K:W.Frag)(T1 T2:Addr)(E:St->XK)(tb t1 t2:TS):TS:=λD σ H=>tb D σ H/\∀(c:Value) (d:Option Addr) (H':Hp) (a:Addr) (σ':St),E σ' c d H'->H' a=none->σ'.length=k ->
 ∃b,W.exmOne K c (.ref T1)=some b/\(b=true->t1 (D.drop i) (σ'.set i (some (.ref a))) (upd H' a (excO a c d)))/\(b=false->W.exmOne K c (.ref T2)=some true/\t2 (D.drop i) (σ'.set i (some (.ref a))) (upd H' a (excO a c d)))
section
variable {X:Cx}{body suite suite2:List Stmt}{b0 b1:Stmt}{n tn tn2:Str}{i:Nat}{T T2:Addr}{E:St->XK}{tb ts t2:TS}{np np2 hpos hpos2 pos:Pos}{D:Ends}{pins:List (Addr×Obj)}
theorem ziI{h0:ExceptHandler}{hs:List ExceptHandler}{H:Hp}{s:Ab}{σ : St}(hst:X.stack=X.env :: X.outer)(hfm:X.env.frame=some X.env.locals)(hb:∀pins, PSs (X.triedS pins E) body tb)(I:Inv X pins σ H s)(hb0:tb D σ H)
  (k:∀(B:Heap) (a:Addr) (o:Obj) (vs:Array Value) (s5 s2:Ab) (σ':St) (H1 H':Hp),Fly B (X.env::X.outer) a o vs .none s5.heap->(∀h',B.StaysIn h'->s5.heap.UpToSlots h'->Inv X pins σ' H' { s5 with heap:=h' })->Inv X pins σ' H1 s2->s2.heap.get? a=none->H' a=none->E σ' o.cls o.dict H' ->
   Aq (Ap X.prog X.w) X.A (handleBy (.ref a) X.env (h0::hs)) (SP X pins D) X.xe s5) :
  Aq (Ap X.prog X.w) X.A (exec (.Try body (h0::hs) [] [] pos) X.env) (SP X pins D) X.xe s:=by
 refine wpAny_Try_except (BR (hb pins [] s σ H D I.triedS hb0) (λf s1 q=>?_) ?_)
 .cases f with
  |next=>exact wpAny_execs_nil q.untriedS
  |_=>exact q.untriedS
 rintro e s1 ⟨ps,σ',H1,s2,I1,a,H',B,o,vs,rfl,os,bare,F,hnew,hn,st,hE0⟩;rw[hst]at F;have J:=I1.unpnd;refine zeP (by rw[<- hst];exact I.ok.frames) hfm F λh4 F4 k4=>?_
 refine zb6 (s:={ s1 with heap:=h4 }) F4 λh5 F5 k5=>?_
 refine k B a o vs _ s2 σ' H1 H' F5 (λh6 z1 z2=>?_) J hnew hn hE0;obtain⟨un,hok⟩:=st h6 z1 ((k4.trans k5).trans z2);exact J.call' (s':={ s1 with heap:=h6 }) (ch:=[]) os un hok bare (λb z=>absurd z (by simp))
theorem zhM(hex:X.ex = [])(hst:X.stack=X.env :: X.outer)(hfm:X.env.frame=some X.env.locals)(hb:∀pins, PSs (X.triedS pins E) body tb)(hs:∀a, PSs (X.held a) (b0 :: suite) ts)(hs2:∀a, PSs (X.held a) (b1 :: suite2) t2)
  (hg:Gl X tn) (hm:X.mg tn=some (.ref T)) (hg2:Gl X tn2) (hm2:X.mg tn2=some (.ref T2)) (hN:X.N.Nodup) (hi:X.N[i]?=some n) (hl:X.env.scope.names.lookup n=some .local) (hdb:(tn == ("__debug__" : Str))=false:=by decide) (hdb2:(tn2 == ("__debug__" : Str))=false:=by decide) :
  PS X (.Try body [.ExceptHandler (some (.Name tn np)) (some n) (b0::suite) hpos,.ExceptHandler (some (.Name tn2 np2)) (some n) (b1::suite2) hpos2] [] [] pos) (zjz i X.N.length X.K T T2 E tb ts t2):=by
 rintro pins s σ H D I ⟨hb0,hs0⟩;refine ziI hst hfm hb I hb0 λB a o vs s5 s2 σ' H1 H' F5 at5 J hnew hn hE0=>?_
 obtain⟨b,q1,q2,q3⟩:=hs0 _ _ _ a σ' hE0 hn J.len;exact zeT I.ok hex F5 at5 J hnew hn hs hg hm hN hi hl q1 q2 (λz=>zeT I.ok hex F5 at5 J hnew hn hs2 hg2 hm2 hN hi hl (q3 z).1 (λ_=>(q3 z).2) (λz=>nomatch z) hdb2) hdb
end
end L2
namespace RR
open PySem L2
noncomputable def top(i:Nat):Stmt:=PySem.Challenge.pw_rimsteps_k85_drawn_texts_refused.main.body.getD i (.Pass ⟨0,0,0,0⟩)
noncomputable abbrev zbU:Stmt:=top 8
noncomputable abbrev zfc:List Str:=["cell"]
theorem zd1:FnScope zfc ["cell"] (zae zbU):=sC
noncomputable abbrev zbL:Stmt:=top 9
noncomputable abbrev zeo:List Str:=["picture","at"]
theorem zb9:FnScope zeo ["picture"] (zae zbL):=sC
noncomputable abbrev zbx:Stmt:=top 10
noncomputable abbrev zcX:List Str:=["picture"]
theorem zd0:FnScope zcX ["picture"] (zae zbx):=sC
noncomputable abbrev zeE:Stmt:=top 13
noncomputable abbrev zhw:List Str:=["row","runs","step"]
theorem zju:FnScope zhw ["row"] (zae zeE):=sC
noncomputable abbrev zcp:Stmt:=top 14
noncomputable abbrev zem:List Str:=["runs"]
theorem zhA:FnScope zem ["runs"] (zae zcp):=sC
noncomputable abbrev zcO:Stmt:=top 20
noncomputable abbrev zfd:List Str:=["row"]
theorem zhH:FnScope zfd ["row"] (zae zcO):=sC
noncomputable abbrev zeG:Stmt:=top 21
noncomputable abbrev zhy:List Str:=["row"]
theorem zjw:FnScope zhy ["row"] (zae zeG):=sC
noncomputable abbrev zdI:Stmt:=top 22
noncomputable abbrev zgl:List Str:=["row","runs","figures"]
theorem ziN:FnScope zgl ["row"] (zae zdI):=sC
noncomputable abbrev zbm:Stmt:=top 23
noncomputable abbrev zcA:List Str:=["word"]
theorem zdt:FnScope zcA ["word"] (zae zbm):=sC
noncomputable abbrev zeD:Stmt:=top 24
noncomputable abbrev zhv:List Str:=["word"]
theorem zjt:FnScope zhv ["word"] (zae zeD):=sC
noncomputable abbrev zcg:Stmt:=top 25
noncomputable abbrev zfu:List Str:=["word","figures","number"]
theorem zbS:FnScope zfu ["word"] (zae zcg):=sC
noncomputable abbrev zfE:Stmt:=top 26
noncomputable abbrev zh9:List Str:=["word","step","cross","times"]
theorem zjF:FnScope zh9 ["word"] (zae zfE):=sC
noncomputable abbrev zeF:Stmt:=top 27
noncomputable abbrev zhx:List Str:=["word","runs"]
theorem zjv:FnScope zhx ["word"] (zae zeF):=sC
noncomputable abbrev zcN:Stmt:=top 28
noncomputable abbrev zfb:List Str:=["word"]
theorem zhG:FnScope zfb ["word"] (zae zcN):=sC
noncomputable abbrev zfF:Stmt:=top 29
noncomputable abbrev zia:List Str:=["word","row"]
theorem zjG:FnScope zia ["word"] (zae zfF):=sC
noncomputable abbrev zbJ:Stmt:=top 32
noncomputable abbrev zel:List Str:=["text","at","forms","words","things","place","reader","thing"]
theorem zaN:FnScope zel ["text","at","forms"] (zae zbJ):=sC
noncomputable abbrev zbT:Stmt:=top 33
noncomputable abbrev zfa:List Str:=["text"]
theorem zdZ:FnScope zfa ["text"] (zae zbT):=sC
noncomputable abbrev zbf:Stmt:=top 36
noncomputable abbrev zbA:List Str:=["picture","xs","left","right","low","high","table","rows","y"]
theorem zaC:FnScope zbA ["picture"] (zae zbf):=sC
noncomputable abbrev zbK:Stmt:=top 37
noncomputable abbrev zen:List Str:=["row","first"]
theorem zds:FnScope zen ["row","first"] (zae zbK):=sC
noncomputable abbrev zbp:Stmt:=top 38
noncomputable abbrev zdr:List Str:=["rows","cells","at"]
theorem zaV:FnScope zdr ["rows"] (zae zbp):=sC
noncomputable abbrev zbo:Stmt:=top 39
noncomputable abbrev zb7:List Str:=["rows","firsts","lasts"]
theorem zce:FnScope zb7 ["rows"] (zae zbo):=sC
noncomputable abbrev zbw:Stmt:=top 40
noncomputable abbrev zcW:List Str:=["text","rows","left","low","cells","up","row"]
theorem zaK:FnScope zcW ["text"] (zae zbw):=sC
noncomputable abbrev zbC:Stmt:=top 42
noncomputable abbrev zdC:List Str:=["_law_script","_law_k"]
theorem zc9:FnScope zdC ["_law_script","_law_k"] (zae zbC):=sC
noncomputable abbrev zcD:Stmt:=top 43
noncomputable abbrev zgm:List Str:=["_law_cell","_law_many","_law_base","_law_found","_law_left","_law_number_here","_law_k"]
theorem zaW:FnScope zgm ["_law_cell","_law_many","_law_base"] (zae zcD):=sC
noncomputable abbrev zbd:Stmt:=top 44
noncomputable abbrev zcd:List Str:=["_law_script","_law_start","_law_wide","_law_high","_law_share","_law_left","_law_low","_law_way","_law_far","_law_found","_law_y","_law_row_here"]
theorem zan:FnScope zcd ["_law_script","_law_start"] (zae zbd):=sC
noncomputable abbrev zcE:Stmt:=top 45
noncomputable abbrev zgn:List Str:=["_law_cells_here","_law_there","_law_cell"]
theorem zcf:FnScope zgn ["_law_cells_here"] (zae zcE):=sC
noncomputable abbrev zbg:Stmt:=top 46
noncomputable abbrev zbB:List Str:=["_law_cells_here","_law_there","_law_wide","_law_rows","_law_y"]
theorem za2:FnScope zbB ["_law_cells_here"] (zae zbg):=sC
noncomputable abbrev zbn:Stmt:=top 47
noncomputable abbrev zcB:List Str:=["_law_word","_law_figures"]
theorem zca:FnScope zcB ["_law_word"] (zae zbn):=sC
noncomputable abbrev zch:Stmt:=top 48
noncomputable abbrev zfv:List Str:=["_law_text","_law_draws","_law_way","_law_at","_law_what","_law_more","_law_signs","_law_sign","_law_rows","_law_here","_law_words","_law_some","_law_place","_law_first","_law_many","_law_full"]
theorem zak:FnScope zfv ["_law_text","_law_draws"] (zae zch):=sC
noncomputable abbrev za8:Stmt:=top 49
noncomputable abbrev zb8:List Str:=["_law_text","_law_rows","_law_words","_law_place","_law_cells_here","_law_at"]
theorem zaX:FnScope zb8 ["_law_text"] (zae za8):=sC
noncomputable abbrev zbh:Stmt:=top 50
noncomputable abbrev zb0:List Str:=["_law_text","_law_rows","_law_x","_law_y","_law_found","_law_up","_law_row_here"]
theorem zaL:FnScope zb0 ["_law_text"] (zae zbh):=sC
noncomputable abbrev s_law:Stmt:=top 51
noncomputable abbrev N_law:List Str:=["_law_script","_law_text","_law_k","_law_bad_here","_law_due","_law_told","e"]
theorem zbF:FnScope N_law ["_law_script"] (zae s_law):=sC
open PySem L2 RP
noncomputable def cellT(c:Cell):List V:=[.int c.1,.int c.2]
noncomputable def Tab(H:Hp)(t:Addr)(C:Cell->Bool):Prop:=∃kvs:List (List Key×V),H t=some (.dT kvs)/\∀c:Cell,(valV kvs [Sum.inl c.1,Sum.inl c.2]).isSome=C c
theorem Same.up{H:Hp}{p:Addr}{o:HO}(h:H p=none):Same H (upd H p o):=λb u e=>by rw[zam (zaS e h)];exact e
structure Txt (P:Am) (w:AB) (K:W.Frag) (mg:Str->Option Value):Prop where
 nrange:mg "range" = none
 nlen:mg "len" = none
 nmin:mg "min" = none
 nmax:mg "max" = none
 nint:mg "int" = none
 nstr:mg "str" = none
 nisinstance:mg "isinstance" = none
 nlist:mg "list" = none
 nabs:mg "abs" = none
 nreversed:mg "reversed" = none
 nValueError:mg "ValueError" = none
 nall:mg "all" = none
 ntuple:mg "tuple" = none
 nenumerate:mg "enumerate" = none
 nbool:mg "bool" = none
theorem two:2<=sizeLine:=by decide
section
variable {P:Am}{w:AB}{K:W.Frag}{mg:Str->Option Value}{base:Heap}
noncomputable def zgC(K:W.Frag):Sp:=λvs H Q _=>∃(a:Addr) (x y:Int) (r:List V),vs=[.ref a]/\SqT K H a (.int x::.int y::r)/\∀(p:Addr) (H':Hp),H p=none->Same H H'->H' p=some (.tup [.int y,.int x])->Q (.ref p) H'
theorem zec (d:Df K mg "cell_order" zbU ["cell"]):FnOk P w K mg base CX0 1 d.f d.fd ["cell"] (zgC K):=by
 refine d.F.ok zd1 (λvs H Q E h=>?_) (λcdv A outer s H vs Q E hr h=>?_)
 .obtain⟨a,x,y,r,rfl,_⟩:=h;rfl
 .obtain⟨a,x,y,r,rfl,hq,k⟩:=h;refine⟨_,(zag (zay (za4 (zaf (pe_ix zcb (pv 0) zad (λ_ _=>rfl)) (zaf (pe_ix zcb (pv 0) zad (λ_ _=>rfl)) zab))))),?_⟩;refine⟨_,rfl,a,_,_,_,rfl,rfl,hq,zas (j:=1) rfl,_,rfl,a,_,_,_,rfl,rfl,hq,zas (j:=0) rfl,two,λp hp=>?_⟩;exact k p _ hp (Same.up hp) zaa
theorem iteN{b:Bool}{A B:Prop}(h:b=false)(q:B):if b=true then A else B:=by subst h;exact iteF q
theorem iteY{b:Bool}{A B:Prop}(h:b=true)(q:A):if b=true then A else B:=by subst h;exact iteT q
theorem zfx{tb:TS}{D:Ends}{σ:St}{H:Hp}(h:tb D σ H):tIfs (λ_ H Q=>Q true H) tb D σ H:=by
 show if true=true then tb D σ H else D.nx σ H
 exact iteT h
theorem gN{j:Nat}{v:V}{σ:St}{H:Hp}{tb:TS}{D:Ends}(h:tb D (σ.set j (some v)) H):gName j v σ H λσ2 H2=>tIfs (λ_ H Q=>Q true H) tb D σ2 H2:=zfx h
noncomputable def LR{α:Type}(K:W.Frag)(H:Hp)(a:Addr)(l:List α)(R:α->V->Hp->Prop):Prop:=∃vs:List V,SqL K H a vs/\vs.length=l.length/\∀(i:Nat) x v,l[i]?=some x->vs[i]?=some v->R x v H
noncomputable def cR(c:Cell)(v:V)(H:Hp):Prop:=∃b,v=.ref b/\H b=some (.tup (cellT c))
theorem cR.same{c:Cell}{v:V}{H H':Hp}(h:cR c v H)(s:Same H H'):cR c v H':=let ⟨b,e,q⟩:=h;⟨b,e,s _ _ q⟩
theorem zdg{α:Type}{l:List α}{i:Nat}{x c:α}(h:l[i]?=some x):c∈l.take (i+1) ↔ c∈l.take i∨c=x:=by rw[List.take_succ,h,List.mem_append];exact⟨λz=>z.elim .inl λz=>.inr (Av.mp z),λz=>z.elim .inl λz=>.inr (Av.mpr z)⟩
noncomputable def InOrd(cs:List Cell):Prop:=∀(i:Nat) c d,cs[i]?=some c->cs[i+1]?=some d->HT.lexLt [c.2,c.1] [d.2,d.1]=true
noncomputable def spAsk(K:W.Frag):Sp:=λvs H Q _=>∃(a:Addr) (cs:List Cell),vs=[.ref a]/\LR K H a cs cR/\InOrd cs/\cs.length<=1000/\∀H',Same H H'->Q (.bl true) H'
theorem zdy (T:Txt P w K mg) (g_cell_order:Fn P w K mg base 1 "cell_order" ["cell"] (zgC K)) (d:Df K mg "ask_picture" zbL ["picture"]):FnOk P w K mg base CX0 2 d.f d.fd ["picture"] (spAsk K):=by
 refine d.F.ok zb9 (λvs H Q E h=>?_) (λcdv A outer s H vs Q E hr h=>?_)
 .obtain⟨a,cs,rfl,_⟩:=h;rfl
 .obtain⟨a,cs,rfl,⟨ws,hq,hn,hc⟩,ho,hlen,k⟩:=h;have hu0:=hr.units0
  refine⟨_,(zac (zbG Bx rfl (zdc (by rfl) T.nrange (pa_C zad (zaf (zah zaj (by rfl) T.nlen (by rfl) (pa_N (pv 0) zab)) zab))) (nG 1 zb9.nd)
   (zag (ps_if (zar (zjR hu0) (pC g_cell_order hr (zaf (pe_ix zao (pv 0) (pv 1) (λ_ _=>rfl)) zab)) (pC g_cell_order hr (zaf (pe_ix zao (pv 0) (pe_op zbV (pv 1) zad) (λ_ _=>rfl)) zab)) (zaw _))
   (zag zhN)
   zaH)))
   (zag (zay pe_bl))),?_⟩
  refine⟨_,rfl,a,_,rfl,.inl hq,_,_,rfl,⟨by decide,by decide,by lia,by lia⟩,?_⟩;refine zaJ (lo:=1) (n:=((ws.length:Int)-1).toNat) (λi σ H2=>∃o,σ=[some (.ref a),o]/\Same H H2) ⟨_,rfl,Same.refl _⟩ ?_ ?_
  .rintro i σ H2 hi ⟨o,rfl,s2⟩;have h1:i+1<ws.length:=by lia
   have v1:ws[i+1]?=some ws[i+1]:=Ad h1;have v0:ws[i]?=some ws[i]:=Ad (by lia)
   have c1:cs[i+1]?=some cs[i+1]:=Ad (by lia)
   have c0:cs[i]?=some cs[i]:=Ad (by lia)
   obtain⟨b1,e1,q1⟩:=hc (i+1) _ _ c1 v1;obtain⟨b0,e0,q0⟩:=hc i _ _ c0 v0;refine⟨_,rfl,_,rfl,a,_,_,_,rfl,rfl,s2.seq hq,(by rw[show (1:Int)+(i:Int)=((i+1:Nat):Int) by lia];exact zas v1),b1,_,_,[],(by rw[e1];rfl),SqT.of (s2 _ _ q1),λp1 H3 hp1 s3 f1=>?_⟩;refine⟨_,rfl,_,rfl,_,_,rfl,rfl,a,_,_,_,rfl,rfl,(s2.trans s3).seq hq,(by rw[show (1:Int)+(i:Int)-1=(i:Int) by lia];exact zas v0),b0,_,_,[],(by rw[e0];rfl),SqT.of ((s2.trans s3) _ _ q0),λp0 H4 hp0 s4 f0=>?_⟩;refine⟨p1,p0,[cs[i+1].2,cs[i+1].1],[cs[i].2,cs[i].1],rfl,rfl,SqT.of (s4 _ _ f1),SqT.of f0,_,rfl,iteN ?_ ?_⟩
   .rw[HT.lexLe_eq,ho i _ _ c0 c1];rfl
   .exact⟨_,rfl,(s2.trans s3).trans s4⟩
  .rintro σ H2 ⟨o,rfl,s2⟩;exact k H2 s2
noncomputable def kC(c:Cell):List Key:=[Sum.inl c.1,Sum.inl c.2]
theorem zfR{c d:Cell}:kC c=kC d ↔ c=d:=by
 constructor
 .intro h;unfold kC at h;injection h with h1 h2;injection h2 with h2 _;exact Prod.ext (Sum.inl.inj h1) (Sum.inl.inj h2)
 .rintro rfl;rfl
noncomputable def zgy(K:W.Frag):Sp:=λvs H Q _=>∃(a:Addr) (cs:List Cell),vs=[.ref a]/\LR K H a cs cR/\cs.length<=1000/\∀t H',H t=none->Same H H'->Tab H' t (isIn cs)->Q (.ref t) H'
theorem zeb (d:Df K mg "cell_table" zbx ["picture"]):FnOk P w K mg base CX0 1 d.f d.fd ["picture"] (zgy K):=by
 refine d.F.ok zd0 (λvs H Q E h=>?_) (λcdv A outer s H vs Q E hr h=>?_)
 .obtain⟨a,cs,rfl,_⟩:=h;rfl
 .obtain⟨a,cs,rfl,⟨ws,hq,hn,hc⟩,hlen,k⟩:=h;have hu1:=hu_of hr;have nb0:(["cell"]:List Str).Nodup:=by decide +kernel
  refine⟨_,(zag (zay (zhQ hu1 (osc:=zae zbx) (N:=zcX) (N':=["cell"]) (sel:=[none]) bO (zbM (pv 0)) (λ_ _ _ _ _=>(nG 0 nb0)) (λ_ _ _ _ _=>za3) (λ_ _ _ _ _=>(pv 0)) (λ_ _ _ _ _=>pe_bl)))),?_⟩;refine⟨_,rfl,a,rfl,⟨_,hq⟩,λp hp=>?_⟩
  refine zb5 (K:=K) (a:=a) (xs:=ws) (λi σ H2=>∃o,σ=[o]/\Same H H2/\∃kvs,H2 p=some (.dT kvs)/\kvs.length<=i/\∀c:Cell,(valV kvs (kC c)).isSome=decide (c∈cs.take i))
   ⟨_,rfl,Same.up hp,[],zaa,Ai _,λc=>by simp[valV]⟩ (λi σ H2 _ ⟨_,_,s2,_⟩=>s2.seq hq) ?_ ?_
  .rintro i v σ H2 hi ⟨o,rfl,s2,kvs,e2,hl,hv⟩;have hil:i<ws.length:=(Aj.mp hi).1;have ci:cs[i]?=some cs[i]:=Ad (by lia)
   obtain⟨b,rfl,q⟩:=hc i _ _ ci hi;refine gN ?_
   refine⟨_,rfl,_,.inr ⟨kvs,kC cs[i],b,e2,rfl,s2 _ _ q,zaF (by lia),rfl⟩,_,rfl,λz o e=>?_,_,zaa,?_,λc=>?_⟩
   .rw[zam (zaS e hp)];exact s2 z o e
   .exact AK (zbs _ _ _) (by lia)
   .rw[zhB]
    by_cases e:c=cs[i]
    .rw[if_pos (zfR.mpr e),decide_eq_true ((zdg ci).mpr (.inr e))];rfl
    .rw[if_neg (λz=>e (zfR.mp z)),hv];exact decide_eq_decide.mpr ⟨λz=>(zdg ci).mpr (.inl z),λz=>((zdg ci).mp z).resolve_right e⟩
  .rintro σ H2 ⟨o,rfl,s2,kvs,e2,hl,hv⟩;refine k p H2 hp s2 ⟨kvs,e2,λc=>?_⟩;show (valV kvs (kC c)).isSome=isIn cs c;rw[hv,hn,List.take_length];rfl
noncomputable def KT(H H':Hp):Prop:=∀b xs,H b=some (.tup xs)->H' b=some (.tup xs)
theorem KT.of{H H':Hp}(s:Same H H'):KT H H':=λb xs e=>s b _ e
theorem KT.lst{H:Hp}{p:Addr}{xs:List V}{o:HO}(h:H p=some (.lst xs)):KT H (upd H p o):=λb ys e=>by rw[zam (ne_of e h (λz=>nomatch z))];exact e
theorem cR.kt{c:Cell}{v:V}{H H':Hp}(h:cR c v H)(s:KT H H'):cR c v H':=let ⟨b,e,q⟩:=h;⟨b,e,s _ _ q⟩
noncomputable def VR{α:Type}(vs:List V)(l:List α)(R:α->V->Hp->Prop)(H:Hp):Prop:=vs.length=l.length/\∀(i:Nat) x v,l[i]?=some x->vs[i]?=some v->R x v H
theorem VR.nil{α:Type}{R:α->V->Hp->Prop}{H:Hp}:VR [] ([]:List α) R H:=⟨rfl,λi x v h=>by simp at h⟩
theorem VR.snoc{α:Type}{vs:List V}{l:List α}{R:α->V->Hp->Prop}{H H':Hp}{x:α}{v:V}(h:VR vs l R H)(m:∀x v,R x v H->R x v H')(hx:R x v H'):VR (vs++[v]) (l++[x]) R H':=by
 refine⟨by simp[h.1],λi y u h1 h2=>?_⟩;rcases B8 i l.length with hi |hi
 .rw[BA hi]at h1;rw[BA (by rw[h.1];exact hi)]at h2;exact m _ _ (h.2 i y u h1 h2)
 .rw[Bs hi]at h1;rw[Bs (by rw[h.1];exact hi)]at h2
  have hz:i-l.length=0:=by have:=(Aj.mp h1).1;simp at this;lia
  rw[hz]at h1;rw[h.1,hz]at h2
  cases h1;cases h2
  exact hx
theorem VR.mono{α:Type}{vs:List V}{l:List α}{R:α->V->Hp->Prop}{H H':Hp}(h:VR vs l R H)(m:∀x v,R x v H->R x v H'):VR vs l R H':=⟨h.1,λi x v h1 h2=>m _ _ (h.2 i x v h1 h2)⟩
theorem VR.at{α:Type}{vs:List V}{l:List α}{R:α->V->Hp->Prop}{H:Hp}(h:VR vs l R H){i:Nat}{v:V}(hv:vs[i]?=some v):∃x,l[i]?=some x/\R x v H:=by
 have hi:i<l.length:=by rw[<- h.1];exact (Aj.mp hv).1
 exact⟨l[i],Ad hi,h.2 i _ v (Ad hi) hv⟩
theorem zax{H H2:Hp}{p:Addr}{o:HO}(hp:H p=none)(s:Same H H2):Same H (upd H2 p o):=λz u e=>by rw[zam (zaS e hp)];exact s z u e
theorem zbe{α:Type}{l:List α}{i:Nat}{x:α}(h:l[i]?=some x):l.take (i+1)=l.take i++[x]:=by rw[List.take_succ,h];rfl
noncomputable def wk(C:Cell->Bool)(es:List Edge):List (Edge×Option Nat):=es.map λe=>(e,stepB C e)
noncomputable abbrev Wk:=List (Edge×Option Nat)
noncomputable def nL(W:Wk):Nat:=(W.filter λq=>q.2.isNone).length
noncomputable def nS(W:Wk):Nat:=(W.filter λq=>slant q.2).length
theorem LR.of{α:Type}{K:W.Frag}{H:Hp}{a:Addr}{vs:List V}{l:List α}{R:α->V->Hp->Prop}(e:H a=some (.lst vs))(h:VR vs l R H):LR K H a l R:=⟨vs,SqL.of e,h.1,h.2⟩
noncomputable def sortS (W:Wk):Str:=if nS W<nL W then "rim" else "hole"
noncomputable def kOf (s:Str):Nat:=if s = "rim" then 0 else 2
noncomputable def zhz(W:Wk)(s:Str)(e:Edge):Prop:=e∈W.map (·.1)/\e.w=kOf s/\∀f∈W.map (·.1),f.w=kOf s->HT.lexLt [f.c.2,f.c.1] [e.c.2,e.c.1]=false
structure Rnd where
 so:Str
 x:Int
 y:Int
 row:List Nat
 deriving DecidableEq
noncomputable def IsRnd(W:Wk)(r:Rnd):Prop:=r.so=sortS W/\∃(j:Nat) (e:Edge),(W.map (·.1))[j]?=some e/\zhz W (sortS W) e/\r.x=e.c.1/\r.y=e.c.2/\r.row=(W.drop j++W.take j).filterMap (·.2)
theorem VR.cons{α:Type}{v:V}{vs:List V}{x:α}{l:List α}{R:α->V->Hp->Prop}{H:Hp}:VR (v::vs) (x::l) R H ↔ R x v H/\VR vs l R H:=by
 constructor
 .intro h;exact⟨h.2 0 x v rfl rfl,by simpa using h.1,λi y u h1 h2=>h.2 (i+1) y u (by simpa using h1) (by simpa using h2)⟩
 .rintro⟨h1,h2⟩;refine⟨by simp[h2.1],λi y u e1 e2=>?_⟩
  match i,e1,e2 with
  | 0,e1,e2=>cases e1;cases e2;exact h1
  |i+1,e1,e2=>exact h2.2 i y u (by simpa using e1) (by simpa using e2)
structure Part (C:Cell->Bool) (ESS:List (List Edge)) (R:List Rnd):Prop where
 len:R.length=ESS.length
 each:∀(i:Nat) es r,ESS[i]?=some es->R[i]?=some r->(∃b,ziH C b es)/\IsRnd (wk C es) r
 nd:ESS.flatten.Nodup
noncomputable def begE(r:Rnd):Edge:=⟨(r.x,r.y),kOf r.so⟩
theorem atI_last{α:Type}{xs:List α}(h:0<xs.length):atI xs (-1)=xs[xs.length-1]?:=by unfold atI ixN;rw[if_neg (by decide),if_pos (by lia)];show xs[((-1:Int)+xs.length).toNat]?=_;rw[show ((-1:Int)+xs.length).toNat=xs.length-1 by lia]
theorem zh7(ns:List Int):BW (tI ns)=1:=by unfold tI;rw[BW,zbQ]
structure Can (C:Cell->Bool) (es:List Edge) (r:Rnd):Prop where
 cl:ziH C (begE r) es
 row:r.row=(es.map (stepB C)).filterMap id
 bg:zhz (wk C es) r.so (begE r)
 so:r.so=sortS (wk C es)
inductive Al {α β:Type} (P:α->β->Prop):List α->List β->Prop where
 |nil:Al P [] []
 |cons {a:α} {b:β} {l:List α} {m:List β}:P a b->Al P l m->Al P (a::l) (b::m)
structure Cans (C:Cell->Bool) (ESS:List (List Edge)) (R:List Rnd):Prop where
 al:Al (λr es=>Can C es r) R ESS
 nd:ESS.flatten.Nodup
 all:∀e,e∈ESS.flatten ↔ IsE C e
inductive Lnk (C:Cell->Bool):Edge->List Edge->Prop where
 |one (e:Edge):Lnk C e []
 |more {e:Edge} {es:List Edge}:Lnk C (nxt C e) es->Lnk C e (nxt C e::es)
structure Box where
 (a b c d:Int)
theorem VR.app{α:Type}{vs ws:List V}{l m:List α}{R:α->V->Hp->Prop}{H:Hp}(h:VR vs l R H)(k:VR ws m R H):VR (vs++ws) (l++m) R H:=by
 refine⟨by rw[At,At,h.1,k.1],λi x v h1 h2=>?_⟩
 by_cases hi:i<l.length
 .rw[BA hi]at h1;rw[BA (by rw[h.1];exact hi)]at h2;exact h.2 i x v h1 h2
 .rw[Bs (by lia)]at h1;rw[Bs (by rw[h.1];lia),h.1]at h2;exact k.2 _ x v h1 h2
noncomputable abbrev Bfr(a b:Cell):Prop:=HT.lexLt [a.2,a.1] [b.2,b.1]=true
noncomputable def lT(l:List (List Int)):PyData:=.list (l.map tI)
theorem zeV:∀l:List (List Int),CM (l.map tI) (l.map tI)=true
 |[]=>rfl
 |x::l=>by show (B4 (tI x) (tI x) && CM (l.map tI) (l.map tI))=true;rw[zeV l,zj1,decide_eq_true rfl];rfl
theorem zj2(l:List (List Int)):B4 (lT l) (lT l)=true:=zeV l
theorem zbY:∀l:List (List Int),BC (l.map tI)=true
 |[]=>rfl
 |x::l=>by
  have:=zgJ x;unfold A0 at this;rw[AX]at this;show (BX (tI x) && BC (l.map tI))=true;rw[this.1,zbY l];rfl
theorem zcj:∀l:List (List Int),Ck (l.map tI)<=1
 |[]=>A1 _
 |x::l=>by show max (BW (tI x)) (Ck (l.map tI))<=1;rw[zh7];have:=zcj l;lia
theorem zeC(l:List (List Int)):A0 (lT l)=true:=by unfold A0 lT;rw[BX,zbY l,BW];have:=zcj l;simp only[CN,decide_eq_true_eq];lia
noncomputable def cI(c:Cell):List Int:=[c.1,c.2]
theorem zeH{K:W.Frag}{H:Hp}:∀{vs:List V}{cs:List Cell},VR vs cs cR H->RDs K H vs ((cs.map cI).map tI)
 |[],[],_=>.nil
 |[],_::_,h=>by have:=h.1;cases this
 |_::_,[],h=>by have:=h.1;cases this
 |v::vs,r::R,h=>by
  obtain⟨⟨b,rfl,q⟩,h2⟩:=VR.cons.mp h;exact .cons (.tup (SqT.of q) (RDs.ints (cI r))) (zeH h2)
theorem zd3{K:W.Frag}{H:Hp}{a:Addr}{vs:List V}{cs:List Cell}(e:SqL K H a vs)(h:VR vs cs cR H):RD K H (.ref a) (lT (cs.map cI)):=.lst e (zeH h)
theorem zgg(l:List (List Int)):B4 (lT l) (lT [])=l.isEmpty:=by cases l <;> rfl
theorem cpow{i j:Int}(h:0<=j/\j<=1000000/\i.natAbs<2 ^ 64):CPow i j:=h
theorem zgG{b:Int}(h0:0<b)(h:b<=6000):b.natAbs.log2<9000:=by refine (Nat.log2_lt (by lia)).mpr (AE (show b.natAbs<2 ^ 13 by lia) (Cp (by decide) (by decide)))
theorem zit{cs:List Cell}(h:cs.Pairwise Bfr):InOrd cs:=by intro i c d h1 h2;have hi:=(Aj.mp h1).1;have hj:=(Aj.mp h2).1;have e1:=(Aj.mp h1).2;have e2:=(Aj.mp h2).2;have a:=List.pairwise_iff_getElem.mp h i (i+1) hi hj (by lia);rw[e1,e2]at a;exact a
theorem zhs{a b y:Int}(h:a<b):Bfr (a,y) (b,y):=by show HT.lexLt [y,a] [y,b]=true;rw[HT.lexLt_cons,if_pos rfl,HT.lexLt_cons,if_neg (by lia)];exact decide_eq_true h
theorem ziF{a b:Cell}(h:a.2<b.2):Bfr a b:=by show HT.lexLt [a.2,a.1] [b.2,b.1]=true;rw[HT.lexLt_cons,if_neg (by lia)];exact decide_eq_true h
noncomputable def zdX(K:W.Frag):Sp:=λvs H Q _=>∃(a:Addr) (ns:List Int) (k:Nat),vs=[.ref a,.int k]/\SqL K H a (ns.map V.int)/\∀n,Q (.int n) H
theorem zdw (T:Txt P w K mg) (d:Df K mg "_law_cell_at" zbC ["_law_script","_law_k"]):FnOk P w K mg base CX0 1 d.f d.fd ["_law_script","_law_k"] (zdX K):=by
 refine d.F.ok zc9 (λvs H Q E h=>?_) (λcdv A outer s H vs Q E hr h=>?_)
 .obtain⟨a,ns,k,rfl,_⟩:=h;rfl
 .obtain⟨a,ns,i,rfl,hq,k⟩:=h
  refine⟨_,(zac (ps_if (zar op_lt (pv 1) (zah zaj (by rfl) T.nlen (by rfl) (pa_N (pv 0) zab)) (zaw _))
   (zag (zay (pe_ix zao (pv 0) (pv 1) (λ_ _=>rfl))))
   zaH)
   (zag (zay zad))),?_⟩
  refine⟨_,rfl,_,rfl,a,_,rfl,.inl hq,_,_,rfl,rfl,_,rfl,?_⟩;refine ite2 (λhy=>?_) (λhn=>k 0)
  have hlt:i<ns.length:=by have:=of_decide_eq_true hy;rw[Ae]at this;lia
  exact⟨_,rfl,_,rfl,a,_,_,_,rfl,rfl,hq,zas (v:=.int ns[i]) (by simp[hlt]),k _⟩
noncomputable def spRow:Sp:=λvs H Q _=>∃(c b:Int) (m:Nat),vs=[.int c,.int m,.int b]/\m<=60/\0<b/\b<=6000/\∀p H' (ns:List Int),H p=none->Same H H'->H' p=some (.lst (ns.map V.int))->ns.length=m->(∀n∈ns,0<=n/\n<b)->Q (.ref p) H'
theorem zf6 (T:Txt P w K mg) (d:Df K mg "_law_row" zcD ["_law_cell","_law_many","_law_base"]):FnOk P w K mg base CX0 1 d.f d.fd ["_law_cell","_law_many","_law_base"] spRow:=by
 refine d.F.ok zaW (λvs H Q E h=>?_) (λcdv A outer s H vs Q E hr h=>?_)
 .obtain⟨c,b,m,rfl,_⟩:=h;rfl
 .obtain⟨c,b,m,rfl,hm,hb,hb2,k⟩:=h
  refine⟨_,(zac (sE 3 zaW.nd (za0 zab))
   (zac (sE 4 zaW.nd (pe_op zbV (pv 0) (pe_op zg0 zad zad)))
   (zac (sE 5 zaW.nd (pe_op zbk (pv 0) zad))
   (zac (zbG Bx rfl (zbi (by rfl) T.nrange (pa_N (pv 1) zab)) (nG 6 zaW.nd)
   (zag (ps_if (zar op_ge (pv 0) (pe_op zg0 zad zad) (zaw _))
   (zac (za9 (pe_bm AR Ba Bb za6 (pv 3) (pa_B (pe_op zbk (pv 4) (pv 2)) zab)))
   (zag (sE 4 zaW.nd (pe_op zhT (pv 4) (pv 2)))))
   (zac (sE 5 zaW.nd (pe_op zbk (pe_op zaI (pe_op zaI (pe_op zdM (pv 5) zad) (pe_op zdM (pe_op zdM (pv 6) (pv 6)) zad)) zad) zad))
   (zag (za9 (pe_bm AR Ba Bb za6 (pv 3) (pa_B (pe_op zbk (pe_op zde (pe_op zbk (pe_op zdM (pv 5) (pv 5)) zad) zad) (pv 2)) zab))))))))
   (zag (zay (pv 3))))))),?_⟩
  have hmod:∀z:Int,0<=z % b/\z % b<b:=λz=>⟨BE _ (by lia),BG _ hb⟩
  have hnum:∀z:Int,0<=z % 2147483629/\z % 2147483629<2147483629:=λz=>⟨BE _ (by decide),BG _ (by decide)⟩
  refine⟨(by show 0<=sizeLine;decide),λp hp=>?_⟩;have s1:Same H (upd H p (.lst [])):=Same.up hp;have e1:upd H p (.lst []) p=some (.lst []):=zaa;generalize upd H p (.lst [])=H1 at s1 e1;refine⟨_,rfl,_,_,rfl,rfl,(by refine cpow ?_;decide),_,_,rfl,rfl,?_⟩;refine⟨_,rfl,_,_,rfl,rfl,(by show (0:Int)<2147483629;decide),?_⟩;refine⟨_,rfl,_,rfl,(by lia),(by lia),?_⟩
  refine zaJ (lo:=0) (n:=m) (λi σ H2=>∃(l q:Int) (o:Option V) (ns:List Int),σ=[some (.int c),some (.int m),some (.int b),some (.ref p),some (.int l),some (.int q),o]/\0<=q/\q<2147483629/\Same H H2/\H2 p=some (.lst (ns.map V.int))/\ns.length=i/\∀n∈ns,0<=n/\n<b)
   ⟨_,_,_,[],rfl,(hnum c).1,(hnum c).2,s1,e1,rfl,by simp⟩ ?_ ?_
  .rintro i σ H2 hi ⟨l,q,o,ns,rfl,q0,q1,s2,e2,hl,hall⟩
   have snoc:∀z:Int,0<=z->z<b->(ns++[z]).length=i+1/\∀n∈ns++[z],0<=n/\n<b:=λz z0 z1=>⟨by rw[At,hl];rfl,λn hn=>by
    rcases B0.mp hn with h |h
    .exact hall n h
    .rw[Av.mp h];exact⟨z0,z1⟩⟩
   refine⟨_,rfl,_,_,rfl,rfl,(by refine cpow ?_;decide),_,_,rfl,rfl,_,rfl,?_⟩;refine ite2 (λ_=>?_) (λ_=>?_)
   .refine⟨_,rfl,.inl ⟨rfl,_,SqL.of e2⟩,_,rfl,_,rfl,_,_,rfl,rfl,hb,p,_,_,rfl,rfl,e2,zaF (by rw[Ae];lia),?_⟩;refine⟨_,rfl,_,rfl,_,_,rfl,rfl,⟨hb,zgG hb hb2⟩,?_⟩;obtain⟨z1,z2⟩:=snoc (l % b) (hmod l).1 (hmod l).2;exact⟨_,q,_,ns++[l % b],rfl,q0,q1,zax hp s2,by rw[zaa,Ak];rfl,z1,z2⟩
   .refine⟨_,rfl,_,_,rfl,rfl,.inr ⟨by decide,by decide⟩,_,rfl,_,rfl,_,_,rfl,rfl,.inl ⟨by lia,by lia⟩,_,_,rfl,rfl,.inr ⟨by decide,by decide⟩,_,_,rfl,rfl,_,_,rfl,rfl,_,_,rfl,rfl,(by show (0:Int)<2147483629;decide),?_⟩;obtain⟨n0,n1⟩:=hnum (q*48271+(0+(i:Int))*(0+(i:Int))*69621+11);refine⟨_,rfl,.inl ⟨rfl,_,SqL.of e2⟩,_,rfl,_,rfl,_,_,rfl,rfl,.inl ⟨by lia,by lia⟩,_,_,rfl,rfl,(by show (0:Int)<2147483647;decide),_,_,rfl,rfl,⟨by decide,by decide⟩,_,rfl,_,_,rfl,rfl,hb,p,_,_,rfl,rfl,e2,zaF (by rw[Ae];lia),?_⟩;obtain⟨z1,z2⟩:=snoc (((q*48271+(0+(i:Int))*(0+(i:Int))*69621+11) % 2147483629)*((q*48271+(0+(i:Int))*(0+(i:Int))*69621+11) % 2147483629) % 2147483647 / 64 % b) (hmod _).1 (hmod _).2;exact⟨l,((q*48271+(0+(i:Int))*(0+(i:Int))*69621+11) % 2147483629),_,ns++[((q*48271+(0+(i:Int))*(0+(i:Int))*69621+11) % 2147483629)*((q*48271+(0+(i:Int))*(0+(i:Int))*69621+11) % 2147483629) % 2147483647 / 64 % b],rfl,n0,n1,zax hp s2,by rw[zaa,Ak];rfl,z1,z2⟩
  .rintro σ H2 ⟨l,q,o,ns,rfl,q0,q1,s2,e2,hl,hall⟩;exact⟨_,rfl,k p H2 ns hp s2 e2 hl hall⟩
noncomputable def rowX(ns:List Int)(sh dx y:Int)(n:Nat):List Cell:=((A3 n).filter λx=>decide (ns.getD x 0<=sh)).map λx:Nat=>((x:Int)+dx,y)
theorem zgM(ns:List Int)(sh dx y:Int)(n:Nat):rowX ns sh dx y (n+1)=rowX ns sh dx y n++(if ns.getD n 0<=sh then [((n:Int)+dx,y)] else []):=by
 unfold rowX;rw[Cm,List.filter_append,Ak]
 congr 1
 by_cases h:ns.getD n 0<=sh
 .rw[if_pos h]
  have e:(List.filter (λx=>decide (ns.getD x 0<=sh)) [n])=[n]:=by show (match decide (ns.getD n 0<=sh) with |true=>[n] |false=>[])=[n];rw[decide_eq_true h]
  rw[e];rfl
 .rw[if_neg h]
  have e:(List.filter (λx=>decide (ns.getD x 0<=sh)) [n])=[]:=by show (match decide (ns.getD n 0<=sh) with |true=>[n] |false=>[])=[];rw[decide_eq_false h]
  rw[e];rfl
theorem zda(ns:List Int)(sh dx y:Int)(n:Nat):(rowX ns sh dx y n).length<=n:=by
 unfold rowX;rw[Ae];refine AK (List.length_filter_le _ _) ?_
 rw[A2];exact Ai _
theorem ziP(ns:List Int)(sh dx y:Int)(n:Nat):(rowX ns sh dx y n).Pairwise Bfr:=by unfold rowX;rw[List.pairwise_map];refine (List.pairwise_lt_range.filter _).imp λ{a b} h=>zhs (by lia)
theorem zim{ns:List Int}{sh dx y:Int}{n:Nat}{c:Cell}(h:c∈rowX ns sh dx y n):c.2=y:=by obtain⟨x,_,rfl⟩:=AO.mp h;rfl
theorem zjH{ns:List Int}{sh dx y:Int}{n:Nat}{c:Cell}(h:c∈rowX ns sh dx y n):dx<=c.1/\c.1<dx+n:=by obtain⟨x,hx,rfl⟩:=AO.mp h;have:=List.mem_range.mp (List.mem_filter.mp hx).1;show dx<=(x:Int)+dx/\(x:Int)+dx<dx+n;lia
noncomputable def CellN(c:Cell):Prop:=(-(10 ^ 30)<c.1/\c.1<10 ^ 30)/\-(10 ^ 30)<c.2/\c.2<10 ^ 30
noncomputable def zig(K:W.Frag):Sp:=λvs H Q _=>∃(a:Addr) (ns:List Int) (st:Nat),vs=[.ref a,.int st]/\SqL K H a (ns.map V.int)/\∀p H' vs cs,H p=none->Same H H'->H' p=some (.lst vs)->VR vs cs cR H'->cs.Pairwise Bfr->cs.length<=120->(∃x0 y0:Int,∀c∈cs,x0<=c.1/\c.1<x0+12/\y0<=c.2/\c.2<y0+10)->(∀c∈cs,CellN c)->Q (.ref p) H'
theorem six{α:Type}{l:List α}(h:l.length=6):∃a b c d e f,l=[a,b,c,d,e,f]:=by
 match l,h with
 |[a,b,c,d,e,f],_=>exact⟨a,b,c,d,e,f,rfl⟩
theorem zdv (T:Txt P w K mg) (g__law_cell_at:Fn P w K mg base 1 "_law_cell_at" ["_law_script", "_law_k"] (zdX K)) (g__law_row:Fn P w K mg base 1 "_law_row" ["_law_cell", "_law_many", "_law_base"] spRow)
    (d:Df K mg "_law_picture" zbd ["_law_script","_law_start"]):FnOk P w K mg base CX0 2 d.f d.fd ["_law_script","_law_start"] (zig K):=by
  refine d.F.ok zan (λvs H Q E h=>?_) (λcdv A outer s H vs Q E hr h=>?_)
  . obtain⟨a,ns,st,rfl,_⟩:=h;rfl
  . obtain⟨a,ns,st,rfl,hS,k⟩:=h;have nb0:(["_law_x","_law_y","_law_far","_law_row_here","_law_share","_law_left","_law_low"]:List Str).Nodup:=by decide +kernel
    refine⟨_,(zac (zeI (pC g__law_row hr (zaf (pC g__law_cell_at hr (pa_N (pv 0) (pa_N (pv 1) zab))) (pa_C zad (pa_C zad zab)))) (zgX (by rfl) (zaq (nG 2 zan.nd) (zaq (nG 3 zan.nd) (zaq (zba (i:=4) zan.nd (by rfl) (CD rfl)) (zaq (zba (i:=5) zan.nd (by rfl) (CD rfl)) (zaq (zba (i:=6) zan.nd (by rfl) (CD rfl)) (zaq (nG 7 zan.nd) zbN))))))))
      (zac (zdK (i:=8) zan.nd (by rfl) (CD rfl) (pe_ix zao (za0 (pa_C zad (pa_B (pe_op zg0 zad zad) zab))) (pe_op zde (pv 7) zad) (λ_ _=>rfl)))
      (zac (sE 9 zan.nd (za0 zab))
      (zac (zbG Bx rfl (zbi (by rfl) T.nrange (pa_B (pe_op zaI zad (pe_op zbk (pv 3) zad)) zab)) (zba (i:=10) zan.nd (by rfl) (CD rfl))
      (zac (zdK (i:=11) zan.nd (by rfl) (CD rfl) (pC g__law_row hr (pa_B (pe_op zaI (pC g__law_cell_at hr (pa_N (pv 0) (pa_B (pe_op zaI (pe_op zaI (pv 1) zad) (pv 10)) zab))) (pv 10)) (pa_B (pe_op zaI zad (pe_op zbk (pv 2) zad)) (pa_C zad zab)))))
      (zag (za9 (pe_bm AR Di Dj zdf (pv 9) (zaf (zaO (osc:=zae zbd) (N:=zcd) (N':=["_law_x","_law_y","_law_far","_law_row_here","_law_share","_law_left","_law_low"]) (sel:=[none,some 10,some 8,some 11,some 4,some 5,some 6]) bO (zbi (by rfl) T.nrange (zaf (zah zaj (by rfl) T.nlen (by rfl) (pa_N (pv 11) zab)) zab)) (λ_ _ _ _ _=>(nG 0 nb0)) (λ_ _ _ _ _=>zfh (zar op_le (pe_ix (zhZ (K:=K)) (pv 3) (pv 0) (λ_ _=>rfl)) (pe_op zbk (pv 4) zad) (zaw _))) (λ_ _ _ _ _=>(za4 (pa_B (pe_op zaI (pv 0) (pe_op zdM (pe_op zbV (pv 5) zad) (pv 2))) (pa_B (pe_op zaI (pv 1) (pe_op zdM (pe_op zbV (pv 6) zad) (pv 2))) zab))))) zab))))))
      (zag (zay (pv 9))))))),?_⟩
    refine⟨_,rfl,_,rfl,a,ns,st,rfl,hS,λc0=>⟨c0,60,6,rfl,by decide,by decide,by decide,λp1 H1 ms hp1 s1 e1 hl1 hb1=>?_⟩⟩;obtain⟨wd,hg,sh,lf,lw,wy,rfl⟩:=six hl1;have bw:=hb1 wd (by simp);have bh:=hb1 hg (by simp);have bl:=hb1 lf (by simp);have bo:=hb1 lw (by simp);have by':=hb1 wy (by simp);refine⟨p1,_,rfl,SqL.of e1,rfl,_,_,rfl,_,_,rfl,_,_,rfl,_,_,rfl,_,_,rfl,_,_,rfl,rfl,?_⟩;refine⟨_,_,rfl,rfl,(by refine cpow ?_;decide),two,λl2 hl2=>?_⟩;have s2:Same H1 (upd H1 l2 (.lst [.int 1,.int (10 ^ (28:Int).toNat)])):=Same.up hl2;have e2:upd H1 l2 (.lst [.int 1,.int (10 ^ (28:Int).toNat)]) l2=some (.lst [.int 1,.int (10 ^ (28:Int).toNat)]):=zaa;generalize upd H1 l2 (.lst [.int 1,.int (10 ^ (28:Int).toNat)])=H2 at s2 e2
    obtain⟨far,hfar,hf2⟩:∃far:Int,atI [V.int 1,V.int (10 ^ (28:Int).toNat)] (wy / 50)=some (.int far)/\(far=1∨far=10 ^ (28:Int).toNat):=by
      have:wy / 50=0∨wy / 50=1:=by lia
      rcases this with z |z <;> rw[z]
      . exact⟨_,rfl,.inl rfl⟩
      . exact⟨_,rfl,.inr rfl⟩
    refine⟨_,rfl,_,_,rfl,rfl,⟨by decide,by decide⟩,l2,_,_,_,rfl,rfl,SqL.of e2,hfar,?_⟩;refine⟨(by show 0<=sizeLine;decide),λf hf=>?_⟩;have s3:Same H2 (upd H2 f (.lst [])):=Same.up hf;have e3:upd H2 f (.lst []) f=some (.lst []):=zaa;generalize upd H2 f (.lst [])=H3 at s3 e3;have s02:=s1.trans s2;have hf0:H f=none:=s02.free hf;have s03:=s02.trans s3;have hh0:=BE hg (show (10:Int)≠0 by decide);have hh1:=BG hg (show (0:Int)<10 by decide);have hw0:=BE wd (show (12:Int)≠0 by decide);have hw1:=BG wd (show (0:Int)<12 by decide);refine⟨_,rfl,_,_,rfl,rfl,(by show (0:Int)<10;decide),_,_,rfl,rfl,_,rfl,(by show -(2 ^ 62)<=1+hg % 10;lia),(by show 1+hg % 10<2 ^ 62;lia),?_⟩
    refine zaJ (lo := 0) (n := (1 + hg % 10).toNat) (λi σ H4 => ∃o10 o11, σ = [some (.ref a), some (.int st), some (.int wd), some (.int hg), some (.int sh), some (.int lf), some (.int lw), some (.int wy), some (.int far), some (.ref f), o10, o11] /\ Same H H4 /\
        ∃vs cs,H4 f=some (.lst vs)/\VR vs cs cR H4/\cs.Pairwise Bfr/\(∀c∈cs,c.2<(i:Int)+(lw-30)*far/\(lw-30)*far<=c.2/\(lf-30)*far<=c.1/\c.1<(lf-30)*far+12)/\cs.length<=12*i)
      ⟨_,_,rfl,s03,[],[],e3,VR.nil,.nil,by simp,A1 _⟩ ?_ ?_
    . rintro i σ H4 hi ⟨o10,o11,rfl,s4,vs,cs,e4,hv4,hpw,hup,hcl⟩;have hi10:i<10:=by lia
      refine⟨_,rfl,_,rfl,_,_,rfl,rfl,_,rfl,_,_,rfl,rfl,a,ns,st+1+i,(by rw[BM];rfl),s4.seq hS,λc1=>⟨_,rfl,_,_,rfl,rfl,?_⟩⟩;refine⟨_,rfl,_,_,rfl,rfl,(by show (0:Int)<12;decide),_,_,rfl,rfl,_,4,(1+wd % 12).toNat,(by rw[Int.toNat_of_nonneg (by lia)];rfl),by lia,by decide,by decide,λp5 H5 rs hp5 s5 e5 hl5 _=>?_⟩;have e45:=s5 _ _ e4;refine⟨_,rfl,.inl ⟨rfl,_,SqL.of e45⟩,_,rfl,p5,_,rfl,.inl (SqL.of e5),_,rfl,(by rw[Ae];lia),(by rw[Ae];lia),λg hg5=>?_⟩;rw[show ((((rs.map V.int).length:Nat):Int)).toNat=rs.length by rw[Ae];rfl];have hrl:rs.length<=12:=by lia
      refine zaJ (lo:=0) (n:=rs.length) (λj σ H6=>∃o0,σ=[o0,some (.int (0+(i:Int))),some (.int far),some (.ref p5),some (.int sh),some (.int lf),some (.int lw)]/\Same H5 H6/\∃zs,H6 g=some (.lst zs)/\VR zs (rowX rs (sh % 3) ((lf-30)*far) ((i:Int)+(lw-30)*far) j) cR H6)
        ⟨_,rfl,Same.up hg5,[],zaa,VR.nil⟩ ?_ ?_
      . rintro j σ H6 hj ⟨o0,rfl,s6,zs,e6,hz6⟩;have hzl:zs.length<=12:=by rw[hz6.1];have:=zda rs (sh % 3) ((lf-30)*far) ((i:Int)+(lw-30)*far) j;lia
        have hget:(rs.map V.int)[j]?=some (.int (rs.getD j 0)):=by rw[A8,Ah,Ad hj];rfl
        refine⟨_,rfl,_,rfl,p5,_,_,_,rfl,rfl,SqL.of (s6 _ _ e5),(by rw[BM];exact zas hget),_,rfl,_,_,rfl,rfl,(by show (0:Int)<3;decide),_,_,rfl,rfl,_,rfl,?_⟩;rw[zgM];refine ite2 (λhy=>?_) (λhn=>?_)
        . rw[if_pos (of_decide_eq_true hy)];refine⟨_,rfl,_,rfl,_,_,rfl,rfl,_,rfl,_,_,rfl,rfl,.inl ⟨by lia,by lia⟩,_,_,rfl,rfl,?_⟩;refine⟨_,rfl,_,rfl,_,_,rfl,rfl,_,rfl,_,_,rfl,rfl,.inl ⟨by lia,by lia⟩,_,_,rfl,rfl,two,λt ht=>?_⟩;have s7:Same H6 (upd H6 t (.tup [.int (0+(j:Int)+(lf-30)*far),.int (0+(i:Int)+(lw-30)*far)])):=Same.up ht;have r7:cR ((j:Int)+(lf-30)*far,(i:Int)+(lw-30)*far) (.ref t) (upd H6 t (.tup [.int (0+(j:Int)+(lf-30)*far),.int (0+(i:Int)+(lw-30)*far)])):=⟨t,rfl,by rw[zaa,BM,BM];rfl⟩;generalize upd H6 t (.tup [.int (0+(j:Int)+(lf-30)*far),.int (0+(i:Int)+(lw-30)*far)])=H7 at s7 r7;have e7:=s7 _ _ e6;refine⟨zs,e7,zaF (by lia),_,rfl,zax hg5 (s6.trans s7),_,zaa,?_⟩;exact hz6.snoc (λx v h=>(h.kt (KT.of s7)).kt (KT.lst e7)) (r7.kt (KT.lst e7))
        . rw[if_neg (by simpa using hn)];exact⟨_,rfl,s6,zs,e6,by rw[B3];exact hz6⟩
      . rintro σ H6 ⟨o0,rfl,s6,zs,e6,hz6⟩;have hrx:=zda rs (sh % 3) ((lf-30)*far) ((i:Int)+(lw-30)*far) rs.length;have hzl:zs.length<=12:=by rw[hz6.1];lia
        have hvl:vs.length<=120:=by rw[hv4.1];lia
        have e46:=s6 _ _ e45;refine⟨f,g,_,_,rfl,rfl,e46,e6,Nat.le_of_lt (zaF (by lia)),?_⟩;have k7:KT H6 (upd H6 f (.lst (vs++zs))):=KT.lst e46;refine⟨_,_,rfl,zax hf0 (s4.trans (s5.trans s6)),_,_,zaa,(hv4.mono λx v h=>(h.kt (KT.of (s5.trans s6))).kt k7).app (hz6.mono λx v h=>h.kt k7),?_,?_,?_⟩
        . refine Do.mpr ⟨hpw,ziP _ _ _ _ _,λx hx y hy=>ziF ?_⟩;have:=(hup x hx).1;rw[zim hy];exact this
        . intro c hc;rcases B0.mp hc with h |h
          . have:=hup c h;lia
          . have e1:=zim h;have e2:=zjH h;lia
        . rw[At];lia
    . rintro σ H4 ⟨o10,o11,rfl,s4,vs,cs,e4,hv4,hpw,hup,hcl⟩;refine⟨_,rfl,k f H4 vs cs hf0 s4 e4 hv4 hpw (by lia) ⟨(lf-30)*far,(lw-30)*far,λc hc=>by have:=hup c hc;lia⟩ λc hc=>?_⟩;have hu:=hup c hc;have hi:((1+hg % 10).toNat:Int)<=10:=by lia
      have e28:((10:Int) ^ (28:Int).toNat)=10000000000000000000000000000:=rfl;have e30:((10:Int) ^ 30)=1000000000000000000000000000000:=rfl;unfold CellN;rw[e30];rcases hf2 with rfl |rfl
      . refine⟨⟨?_,?_⟩,?_,?_⟩ <;> lia
      . rw[e28]at hu;refine⟨⟨?_,?_⟩,?_,?_⟩ <;> lia
noncomputable def keyR(k:List Key)(v:V)(H:Hp):Prop:=∃b,v=.ref b/\H b=some (.tup (k.map kV))
noncomputable def tru(ks:List (List Key)):List (List Key×V):=ks.map λk=>(k,V.bl true)
theorem zhK{ks:List (List Key)}{k:List Key}(h:k ∉ ks):putK (tru ks) k (.bl true)=tru (ks++[k]):=by
 unfold putK tru;rw[if_neg (λz=>?_),Ak]
 .rfl
 .obtain⟨x,hx,e⟩:=List.any_eq_true.mp z;obtain⟨y,hy,rfl⟩:=AO.mp hx;exact h (by rw[<- of_decide_eq_true e];exact hy)
theorem zgs:∀{ks:List (List Key)}{k:List Key},k ∉ ks->valV (tru ks) k=none
 |[],_,_=>rfl
 |x::xs,k,h=>by
  show valV ((x,V.bl true)::tru xs) k=none;rw[zaR (λe=>h (by rw[<- e];exact A4))];exact zgs λm=>h (AH _ m)
theorem zid:∀{ks:List (List Key)}{k:List Key},k∈ks->valV (tru ks) k=some (.bl true)
 |x::xs,k,h=>by
  show valV ((x,V.bl true)::tru xs) k=some (V.bl true)
  by_cases e:x=k
  .rw[zaU e]
  .rw[zaR e];exact zid ((Ax.mp h).resolve_left λz=>e z.symm)
noncomputable def spLot(K:W.Frag):Sp:=λvs H Q _=>∃(a:Addr) (us:List V) (ks:List (List Key)),vs=[.ref a]/\SqL K H a us/\VR us ks keyR H/\ks.Nodup/\ks.length<=1000/\∀t H',H t=none->Same H H'->H' t=some (.dT (tru ks))->Q (.ref t) H'
theorem zf7 (d:Df K mg "_law_lot" zcE ["_law_cells_here"]):FnOk P w K mg base CX0 1 d.f d.fd ["_law_cells_here"] (spLot K):=by
 refine d.F.ok zcf (λvs H Q E h=>?_) (λcdv A outer s H vs Q E hr h=>?_)
 .obtain⟨a,us,ks,rfl,_⟩:=h;rfl
 .obtain⟨a,us,ks,rfl,hq,hv,hnd,hlen,k⟩:=h;have hu1:=hu_of hr
  refine⟨_,(zac (sE 1 zcf.nd zhP)
   (zac (zbG Bx rfl (zbM (pv 0)) (nG 2 zcf.nd)
   (zag (ziY hu1 (pv 1) (pv 2) pe_bl rfl)))
   (zag (zay (pv 1))))),?_⟩
  refine λp hp=>?_
  refine⟨_,rfl,a,rfl,⟨_,(Same.up hp).seq hq⟩,?_⟩
  refine zb5 (K:=K) (a:=a) (xs:=us) (λi σ H2=>∃o,σ=[some (.ref a),some (.ref p),o]/\Same H H2/\H2 p=some (.dT (tru (ks.take i))))
   ⟨_,rfl,Same.up hp,zaa⟩ (λi σ H2 _ ⟨_,_,s2,_⟩=>s2.seq hq) ?_ ?_
  .rintro i v σ H2 hi ⟨o,rfl,s2,e2⟩;obtain⟨x,hx,b,rfl,q⟩:=hv.at hi;have hil:i<ks.length:=(Aj.mp hx).1
   have hn:x ∉ ks.take i:=λhm=>by
    obtain⟨j,hj,ej⟩:=Ct hm;rw[AJ]at hj;have h1:ks[j]?=some x:=by rw[<- ej,List.getElem_take];exact Ad (by lia)
    have:=(List.getElem?_inj (i:=j) (j:=i) (by lia) hnd).mp (by rw[h1,hx]);lia
   refine⟨_,rfl,_,rfl,p,_,rfl,.inr ⟨tru (ks.take i),x,b,e2,rfl,s2 _ _ q,zaF (by unfold tru;rw[Ae,AJ];lia),rfl⟩,?_⟩;refine⟨_,rfl,λz o e=>?_,?_⟩
   .rw[zam (zaS e hp)];exact s2 z o e
   .rw[zaa,zhK hn,zbe hx]
  .rintro σ H2 ⟨o,rfl,s2,e2⟩;rw[hv.1,List.take_length]at e2;exact⟨_,rfl,k p H2 hp s2 e2⟩
theorem zhD(cs:List Cell)(c:Cell):(valV (tru (cs.map kC)) (kC c)).isSome=isIn cs c:=by
 show _=decide (c∈cs)
 by_cases m:c∈cs
 .rw[zid (AO.mpr ⟨c,m,rfl⟩),decide_eq_true m];rfl
 .rw[zgs (λz=>by obtain⟨x,hx,e⟩:=AO.mp z;exact m ((zfR.mp e) ▸ hx)),decide_eq_false m];rfl
noncomputable abbrev tS(i:Int):Str:=Aa (Cf i)
noncomputable def NearI(x:Int):Prop:=-(10 ^ 31)<x/\x<10 ^ 31
theorem zaz(a b:Str):(a++b).length=a.length+b.length:=by obtain⟨c⟩:=a;obtain⟨d⟩:=b;exact Array.size_append
theorem zdm(b:Str):Str.empty++b=b:=by obtain⟨c⟩:=b;show (⟨#[]++c⟩:Str)=⟨c⟩;rw[Array.empty_append]
theorem zdQ{x:Int}(h:NearI x):(tS x).length<=32:=by
 obtain⟨h1,h2⟩:=h
 by_cases hx:0<=x
 .exact AK (PyProof.Rows.toString_length_le hx (k:=31) (by decide) h2) (by decide)
 .have e:tS x=Aa ("-" ++ Cf (0-x)):=by unfold tS;rw[PyProof.Rows.toString_neg (by lia)]
  have hl:=PyProof.Rows.toString_length_le (v:=0-x) (by lia) (k:=31) (by decide) (by lia);rw[e,PyProof.Rows.ofString_length,String.toList_append,At];rw[PyProof.Rows.ofString_length]at hl;have:("-" : String).toList.length=1:=by decide
  lia
theorem zc3{x:Int}(h:NearI x):x.natAbs.log2<1920:=by
 obtain⟨h1,h2⟩:=h
 by_cases h0:x.natAbs=0
 .rw[h0];decide
 .refine (Nat.log2_lt h0).mpr (AE (show x.natAbs<10 ^ 31 by lia) (by decide +kernel))
theorem zex{ys:List Str}{B:Nat}(h:∀y∈ys,y.length<=B):(ys.map Str.length).sum<=B*ys.length:=by
 induction ys with
 |nil=>simp
 |cons y r ih =>
  have:=ih λz hz=>h z (AH _ hz)
  have:=h y A4;rw[AZ,List.sum_cons,AD,Nat.mul_add];lia
theorem zfP(sep:Str)(ys:List Str):(Bt sep ys).length<=(ys.map Str.length).sum+ys.length*sep.length:=by show (Builtin.Str.glued sep ys).length<=_;rw[size_glued];have:=Nat.mul_le_mul_right sep.length (show ys.length-1<=ys.length by lia);have e:(ys.map λx=>Str.length x)=ys.map Str.length:=rfl;rw[e];lia
noncomputable def signS (b:Bool):Str:=if b=true then "#" else "."
noncomputable def lineS (C:Cell->Bool) (l:Int) (n:Nat) (y:Int):Str:=Bt "" ((A3 n).map λk:Nat=>signS (C (l+k,y)))
noncomputable def drawS (C:Cell->Bool) (l lo:Int) (n h:Nat):Str:=Bt "\n" ((tS l++Aa " " ++ tS lo)::(A3 h).map λk:Nat=>lineS C l n (lo+h-1-k))
theorem zeg(b:Bool):(signS b).length=1:=by cases b <;> rfl
theorem zeh(C:Cell->Bool)(l:Int)(n:Nat)(y:Int):(lineS C l n y).length<=n:=by
 unfold lineS;refine AK (zfP _ _) ?_
 have:=zex (ys:=(A3 n).map λk:Nat=>signS (C (l+k,y))) (B:=1) λz hz=>by obtain⟨k,_,rfl⟩:=AO.mp hz;rw[zeg];exact Ai _
 rw[Ae,A2]at this ⊢;have e:(Aa "").length=0:=rfl;rw[e];lia
noncomputable def CellM(c:Cell):Prop:=NearI c.1/\NearI c.2
theorem zis{cs:List Cell}(h:InOrd cs):cs.Pairwise λa b=>HT.lexLt [a.2,a.1] [b.2,b.1]=true:=by
 induction cs with
 |nil=>exact .nil
 |cons a r ih =>
  have ih':=ih λi c d h1 h2=>h (i+1) c d (by simpa using h1) (by simpa using h2)
  refine List.pairwise_cons.mpr ⟨λb hb=>?_,ih'⟩
  cases r with
  |nil=>cases hb
  |cons c r =>
   have h0:HT.lexLt [a.2,a.1] [c.2,c.1]=true:=h 0 a c rfl rfl;rcases Ax.mp hb with rfl |hb
   .exact h0
   .exact HT.lexLt_trans h0 ((List.pairwise_cons.mp ih').1 b hb)
theorem ziy{a b c d:Int}(h:HT.lexLt [a,b] [c,d]=true):a<=c:=by
 simp only[HT.lexLt]at h;split at h
 .lia
 .simp at h;lia
theorem zd5{cs:List Cell}(h:InOrd cs){d0 d1:Cell}(h0:cs[0]?=some d0)(h1:cs[cs.length-1]?=some d1):∀c∈cs,d0.2<=c.2/\c.2<=d1.2:=by
 intro c hc;obtain⟨i,hi,rfl⟩:=Ct hc;have pw:=List.pairwise_iff_getElem.mp (zis h);have hl:0<cs.length:=by lia
 rw[Ad hl]at h0;have h2:cs.length-1<cs.length:=by lia
 rw[Ad h2]at h1
 cases h0
 cases h1
 constructor
 .rcases BU i with rfl |z
  .exact Co _
  .exact ziy (pw 0 i hl hi z)
 .rcases B8 i (cs.length-1) with z |z
  .exact ziy (pw i (cs.length-1) hi (by lia) z)
  .have:i=cs.length-1:=by lia
   subst this;exact Co _
noncomputable def colD(i:Nat)(c:Cell):Int:=if i=0 then c.1 else c.2
theorem zhp{K:W.Frag}{j i:Nat}{σ : St}{H:Hp}{a:Addr}{us:List V}{cs:List Cell}{Q:VK}(hi:i < 2)(h0 : σ[j]? = some (some (.ref a)))(ha:SqL K H a us)(hv:VR us cs cR H)(hl:cs.length <= 900)
  (k:∀g H',H g=none->Same H H'->H' g=some (.lst ((cs.map (colD i)).map V.int))->Q (.ref g) H') :
  zfz (iList K (tVar j)) [none,none] (gTup K 2 (gCons (gName 0) (gCons (gName 1) gNil))) (λx H Q=>Q true H) (tVar i) σ H Q:=by
 refine⟨_,h0,a,rfl,⟨_,ha⟩,λg hg=>?_⟩
 refine zb5 (K:=K) (a:=a) (xs:=us) (λj σ H2=>∃o0 o1,σ=[o0,o1]/\Same H H2/\H2 g=some (.lst (((cs.take j).map (colD i)).map V.int)))
  ⟨_,_,rfl,Same.up hg,zaa⟩ (λj σ H2 _ ⟨_,_,_,s2,_⟩=>s2.seq ha) ?_ ?_
 .rintro j x σ H2 hj ⟨o0,o1,rfl,s2,e2⟩;have hjl:j<us.length:=(Aj.mp hj).1;have hul:=hv.1;have hc:cs[j]?=some cs[j]:=Ad (by lia)
  obtain⟨B,rfl,qc⟩:=hv.2 j _ _ hc hj;refine⟨B,_,rfl,SqT.of (s2 _ _ qc),rfl,_,_,rfl,_,_,rfl,rfl,?_⟩;refine zfx ?_
  have hx:([some (V.int cs[j].1),some (V.int cs[j].2)]:St)[i]?=some (some (V.int (colD i cs[j]))):=by
   have hil:i=0∨i=1:=by lia
   rcases hil with rfl |rfl <;> rfl
  refine⟨_,hx,_,e2,zaF (by rw[Ae,Ae,AJ];lia),_,_,rfl,zax hg s2,?_⟩;rw[zaa,zbe hc,Ak,Ak];rfl
 .rintro σ H2 ⟨o0,o1,rfl,s2,e2⟩;rw[hv.1,List.take_length]at e2;exact k g H2 hg s2 e2
theorem zij{K:W.Frag}{j i m:Nat}{σ : St}{H:Hp}{a:Addr}{us:List V}{cs:List Cell}{D:Ends}{t:TS}(hi:i < 2)(h0 : σ[j]? = some (some (.ref a)))(ha:SqL K H a us)(hv:VR us cs cR H)(hl:cs.length <= 900)
  (k:∀g H',H g=none->Same H H'->H' g=some (.lst ((cs.map (colD i)).map V.int))->t D (σ.set m (some (.ref g))) H') :
  tSeq (zik (iList K (tVar j)) [none,none] (gTup K 2 (gCons (gName 0) (gCons (gName 1) gNil))) (λx H Q=>Q true H) (tVar i) m) t D σ H :=
 zhp (Q:=λv H'=>t D (σ.set m (some v)) H') hi h0 ha hv hl k
noncomputable def zgz (K:W.Frag) (C:Addr):Sp:=λvs H Q E=>∃(a:Addr) (cs:List Cell),vs=[.ref a]/\LR K H a cs cR/\InOrd cs/\cs.length<=120/\(∀c∈cs,CellM c)/\(cs=[]->∀H',Same H H'->Q (.str "") H') /\
 ∀c0 c1 l r,cs[0]?=some c0->cs[cs.length-1]?=some c1->IsMin (cs.map Prod.fst) l->IsMax (cs.map Prod.fst) r ->
  ((r-l<60/\c1.2-c0.2<60)->∀H',Same H H'->Q (.str (drawS (isIn cs) l c0.2 (r-l+1).toNat (c1.2-c0.2+1).toNat)) H')/\(¬ (r-l<60/\c1.2-c0.2<60)->∀H',Same H H'->E (.ref C) none H')
theorem zd7 (T:Txt P w K mg){tMS:Tok}(hMS:mg "MOST_SIGNS" = some (.int 60 tMS)){c_TooWide:Addr}(m_TooWide:mg "TooWide" = some (.ref c_TooWide)) (e_TooWide:W.excIn K c_TooWide [.type "ValueError", .type "Exception", .type "BaseException", .type "object"] "ValueError.__new__" = true)
    (g_ask_picture:Fn P w K mg base 2 "ask_picture" ["picture"] (spAsk K)) (g_cell_table:Fn P w K mg base 1 "cell_table" ["picture"] (zgy K)) (d:Df K mg "show_drawn" zbf ["picture"]):FnOk P w K mg base (CX1 P w) 3 d.f d.fd ["picture"] (zgz K c_TooWide):=by
  refine d.F.okX zaC (λvs H Q E h=>?_) (λcdv A outer s H vs Q E hr h=>?_)
  . obtain⟨a,cs,rfl,_⟩:=h;rfl
  . obtain⟨a,cs,rfl,hL,ho,hlen,hM,k0,k⟩:=h;have hu1:=hu_of hr;have nb0:(["x","y"]:List Str).Nodup:=by decide +kernel
    have nb1:(["x","table","y"]:List Str).Nodup:=by decide +kernel
    refine⟨_,(zac (PS.nox (za9 (pC g_ask_picture hr (pa_N (pv 0) zab))))
      (zac (PS.nox (ps_if (zcr (zfI (pv 0) (λ_=>rfl)))
      (zag (zay zai))
      zaH))
      (zac (PS.nox (zfJ (i:=1) (osc:=zae zbf) (N:=zbA) (N':=["x","y"]) (sel:=[none,none]) bO zaC.nd (by rfl) (Or.inl rfl) (zbM (pv 0)) (λ_ _ _ _ _=>(zfj (K:=K) (n:=2) (by rfl) (zaq (nG 0 nb0) (zaq (nG 1 nb0) zbN)))) (λ_ _ _ _ _=>za3) (λ_ _ _ _ _=>(pv 0))))
      (zac (PS.nox (zeI (za4 (zaf (zah (zdo rfl) (by rfl) T.nmin (by rfl) (pa_N (pv 1) zab)) (zaf (zah (ze4 rfl) (by rfl) T.nmax (by rfl) (pa_N (pv 1) zab)) (zaf (pe_ix zcb (pe_ix zao (pv 0) zad (λ_ _=>rfl)) zad (λ_ _=>rfl)) (zaf (pe_ix zcb (pe_ix zao (pv 0) (pe_un zcl zad) (λ_ _=>rfl)) zad (λ_ _=>rfl)) zab))))) (zfK (by rfl) (zaq (nG 2 zaC.nd) (zaq (nG 3 zaC.nd) (zaq (nG 4 zaC.nd) (zaq (nG 5 zaC.nd) zbN)))))))
      (zac (ps_if (PT.nox (pw_or (zar op_ge (pe_op zbV (pv 3) (pv 2)) (zbD (v:=.int 60) (by rfl) hMS ⟨_,rfl⟩) (zaw _)) (zcq (zar op_ge (pe_op zbV (pv 5) (pv 4)) (zbD (v:=.int 60) (by rfl) hMS ⟨_,rfl⟩) (zaw _)))).pt) (zag (zgS PySem.F.excBase_ValueError e_TooWide (by rfl) m_TooWide)) zaH)
      (zac (PS.nox (zdK (i:=6) zaC.nd (by rfl) (CD rfl) (pC g_cell_table hr (pa_N (pv 0) zab))))
      (zac (PS.nox (sE 7 zaC.nd (za0 (zaf (zi4 (zfi (ziq (pv 2)) (zfi zai (zfi (ziq (pv 4)) zjM)))) zab))))
      (zac (PS.nox (zbG Bx rfl (ziZ (by rfl) T.nreversed (by rfl) T.nrange (pa_N (pv 4) (pa_B (pe_op zaI (pv 5) zad) zab))) (zba (i:=8) zaC.nd (by rfl) (CD rfl))
      (zag (za9 (pe_bm AR Ba Bb za6 (pv 7) (zaf (pe_bm An AT AU zbl zai (zaf (zaO (osc:=zae zbf) (N:=zbA) (N':=["x","table","y"]) (sel:=[none,some 6,some 8]) bO (zeK (by rfl) T.nrange (pa_N (pv 2) (pa_B (pe_op zaI (pv 3) zad) zab))) (λ_ _ _ _ _=>(nG 0 nb1)) (λ_ _ _ _ _=>za3) (λ_ _ _ _ _=>(zd4 (zjK (zir hu1 (za4 (pa_N (pv 0) (pa_N (pv 2) zab))) (pv 1))) zai zai))) zab)) zab))))))
      (zag (PS.nox (zay (pe_bm An AT AU zbl zai (pa_N (pv 7) zab))))))))))))),?_⟩
    refine⟨_,rfl,a,cs,rfl,hL,ho,by lia,λH1 s1=>?_⟩;obtain⟨ws,hq,hn,hc⟩:=hL;refine⟨_,rfl,_,.inl ⟨ws,s1.seq hq,rfl⟩,?_⟩;have hq1:=s1.seq hq;have hv1:VR ws cs cR H1:=⟨hn,λi x v h1 h2=>(hc i x v h1 h2).same s1⟩;refine ite2 (λhz=>?_) (λhz=>?_)
    . have:ws=[]:=by simpa using hz
      subst this;exact k0 (List.eq_nil_of_length_eq_zero hn.symm) H1 s1
    have hwl:0<ws.length:=by
      rcases BU ws.length with z |z
      . have:=List.eq_nil_of_length_eq_zero z;subst this;exact absurd hz (by decide)
      . exact z
    have hcl:0<cs.length:=by lia
    refine zij (j:=0) (i:=0) (m:=1) (by decide) rfl hq1 hv1 (by lia) λg H2 hg s2 e2=>?_
    have hne:cs.map (colD 0)≠[]:=λz=>by have:=congrArg List.length z;rw[Ae,Bv]at this;lia
    have w0:ws[0]?=some ws[0]:=Ad hwl;have c0:cs[0]?=some cs[0]:=Ad hcl;have w1:ws[ws.length-1]?=some ws[ws.length-1]:=Ad (by lia)
    have c1:cs[ws.length-1]?=some cs[ws.length-1]:=Ad (by lia)
    obtain⟨b0,eb0,q0⟩:=hv1.2 0 _ _ c0 w0;obtain⟨b1,eb1,q1⟩:=hv1.2 _ _ _ c1 w1;rw[eb0]at w0;rw[eb1]at w1;generalize cs[0]=d0 at *;generalize cs[ws.length-1]=d1 at *;refine⟨_,rfl,g,_,rfl,SqL.of e2,hne,λl hl=>⟨_,rfl,g,_,rfl,SqL.of e2,hne,λr hr'=>?_⟩⟩;refine⟨_,rfl,a,ws,0,_,rfl,rfl,s2.seq hq1,zas w0,b0,_,1,_,rfl,rfl,SqT.of (s2 _ _ q0),rfl,?_⟩;refine⟨_,rfl,_,rfl,a,ws,-1,_,rfl,rfl,s2.seq hq1,(RR.atI_last hwl).trans w1,b1,_,1,_,rfl,rfl,SqT.of (s2 _ _ q1),rfl,(by show 4<=sizeLine;decide),λp hp=>?_⟩;have s3:=Same.up (o:=.tup [V.int l,V.int r,V.int d0.2,V.int d1.2]) hp;have e3:upd H2 p (.tup [V.int l,V.int r,V.int d0.2,V.int d1.2]) p=some (.tup [V.int l,V.int r,V.int d0.2,V.int d1.2]):=zaa;generalize upd H2 p (.tup [V.int l,V.int r,V.int d0.2,V.int d1.2])=H3 at s3 e3;refine⟨p,_,rfl,SqT.of e3,rfl,_,_,rfl,_,_,rfl,_,_,rfl,_,_,rfl,rfl,?_⟩;have hσ:L2.start zbA [V.ref a]=[some (.ref a),none,none,none,none,none,none,none,none]:=rfl;rw[hσ];simp only[zaA,AF,AG];have hcol:cs.map (colD 0)=cs.map Prod.fst:=Da λc _=>rfl
    rw[hcol]at hl hr';have kk:=k d0 d1 l r c0 (by rw[<- hn];exact c1) hl hr';have s03:Same H H3:=s1.trans (s2.trans s3);refine⟨_,rfl,_,rfl,_,_,rfl,rfl,_,_,rfl,rfl,_,rfl,?_⟩;refine ite2 (λh1=>iteT (kk.2 (λz=>absurd (of_decide_eq_true h1) (by lia)) H3 s03)) (λh1=>?_);refine⟨_,rfl,_,rfl,_,_,rfl,rfl,_,_,rfl,rfl,_,rfl,?_⟩;refine ite2 (λh2=>kk.2 (λz=>absurd (of_decide_eq_true h2) (by lia)) H3 s03) (λh2=>?_);have h1:¬ (60<=r-l):=λz=>h1 (decide_eq_true z)
    have h2:¬ (60<=d1.2-d0.2):=λz=>h2 (decide_eq_true z)
    have kd:=kk.1 ⟨by lia,by lia⟩;refine⟨_,rfl,a,cs,rfl,⟨ws,s03.seq hq,hn,λi x v z1 z2=>(hc i x v z1 z2).same s03⟩,by lia,λt H4 ht s4 hT=>?_⟩;simp only[zaA,AF,AG];have m0:=hM d0 (AQ c0);obtain⟨cl,hcl1,hcl2⟩:=AO.mp hl.1;have ml:NearI l:=by rw[<- hcl2];exact (hM cl hcl1).1
    have ll:=zdQ ml;have lo:=zdQ m0.2;have hz1:∀n,n<=1000->n<=sizeLine:=λn hn=>Nat.le_of_lt (zaF hn)
    have l1:(Aa " ").length=1:=rfl;refine⟨_,rfl,.inl ⟨l,rfl,zc3 ml,_,rfl,hz1 _ (by rw[zdm];show (tS l).length<=1000;lia),_,rfl,hz1 _ (by rw[zdm,zaz];show (tS l).length+_<=1000;lia),_,rfl,.inl ⟨d0.2,rfl,zc3 m0.2,_,rfl,hz1 _ ?_,hz1 _ ?_,(by show 1<=sizeLine;decide),λrw hrw=>?_⟩⟩⟩
    . rw[zdm,zaz,zaz];show (tS l).length+_+(tS d0.2).length<=1000;lia
    . rw[zdm,zaz,zaz];show (tS l).length+_+(tS d0.2).length<=1000;lia
    rw[zdm];have s5:=Same.up (o:=.lst [.str (tS l++Aa " " ++ tS d0.2)]) hrw;have e5:upd H4 rw (.lst [.str (tS l++Aa " " ++ tS d0.2)]) rw=some (.lst [.str (tS l++Aa " " ++ tS d0.2)]):=zaa;generalize upd H4 rw (.lst [.str (tS l++Aa " " ++ tS d0.2)])=H5 at s5 e5;simp only[zaA,AF,AG];have hle:d0.2<=d1.2:=(zd5 ho c0 (by rw[<- hn];exact c1) d0 (AQ c0)).2;obtain⟨kvs,et,hC⟩:=hT;refine⟨_,rfl,_,rfl,_,_,rfl,rfl,d0.2,d1.2+1,rfl,by lia,?_⟩;have hnn:(d1.2+1-d0.2).toNat=(d1.2-d0.2+1).toNat:=by congr 1;lia
    rw[hnn];generalize hh:(d1.2-d0.2+1).toNat=h at *;generalize hw:(r-l+1).toNat=n at *
    refine zfU (λi σ H6=>∃o,σ=[some (.ref a),some (.ref g),some (.int l),some (.int r),some (.int d0.2),some (.int d1.2),some (.ref t),some (.ref rw),o]/\Same H4 H6 /\
      H6 rw=some (.lst (((tS l++Aa " " ++ tS d0.2)::(A3 i).map λk:Nat=>lineS (isIn cs) l n (d0.2+h-1-k)).map V.str))) ⟨_,rfl,s5,e5⟩ ?_ ?_
    . rintro i σ H6 hi ⟨o,rfl,s6,e6⟩;simp only[zaA,AF,AG];refine⟨_,rfl,.inl ⟨rfl,_,SqL.of e6⟩,rfl,_,rfl,_,rfl,_,_,rfl,rfl,l,r+1,rfl,λq hq=>?_⟩;have hwn:(r+1-l).toNat=n:=by rw[<- hw];congr 1;lia
      rw[hwn];generalize hy:d1.2+1-1-(i:Int)=y at *;refine zaJ (λj σ H7=>∃o,σ=[o,some (.ref t),some (.int y)]/\Same H6 H7/\H7 q=some (.lst (((A3 j).map λk:Nat=>signS (isIn cs (l+k,y))).map V.str))) ⟨_,rfl,Same.up hq,zaa⟩ ?_ ?_
      . rintro j σ H7 hj ⟨o2,rfl,s7,e7⟩;refine gN ?_
        refine⟨_,rfl,_,rfl,two,λz hz=>⟨_,rfl,t,_,rfl,.inr ⟨kvs,kC (l+j,y),z,Rd.of (Same.up hz _ _ (s7 _ _ (s6 _ _ et))),rfl,zaa,rfl⟩,_,rfl,?_⟩⟩;have hv:=hC (l+j,y);change (valV kvs (kC (l+j,y))).isSome=_ at hv;rw[hv];have s8:=Same.up (o:=.tup [V.int (l+j),V.int y]) hz
        have fin:∀x:Str, x=signS (isIn cs (l + j, y)) -> ∃xs, upd H7 z (.tup [V.int (l + j), V.int y]) q=some (.lst xs) /\ xs.length < sizeLine /\ ∃o, [some (V.int (l + j)), some (V.ref t), some (V.int y)] = [o, some (V.ref t), some (V.int y)] /\ Same H6 (upd (upd H7 z (.tup [V.int (l + j), V.int y])) q (.lst (xs ++ [V.str x]))) /\
            upd (upd H7 z (.tup [V.int (l+j),V.int y])) q (.lst (xs++[V.str x])) q=some (.lst (((A3 (j+1)).map λk:Nat=>signS (isIn cs (l+k,y))).map V.str)):=λx hx=>by
          refine⟨_,s8 _ _ e7,zaF (by rw[Ae,Ae,A2];lia),_,rfl,zax hq (s7.trans s8),?_⟩;rw[zaa,Cm,Ak,Ak,hx];rfl
        refine ite2 (λhb=>fin _ (by unfold signS;rw[if_pos hb])) (λhb=>fin _ (by unfold signS;rw[if_neg hb]))
      . rintro σ H7 ⟨o2,rfl,s7,e7⟩;refine⟨_,q,_,rfl,rfl,e7,?_,rw,_,_,rfl,rfl,s7 _ _ e6,zaF ?_,?_⟩
        . have := zex (ys := (A3 n).map λk:Nat => signS (isIn cs (l + k, y))) (B := 1) λz hz => by obtain⟨k,_,rfl⟩:=AO.mp hz;rw[zeg];exact Ai _
          rw[Ae,A2]at this ⊢;have e:(Aa "").length=0:=rfl;rw[e];lia
        . rw[Ae,AD,Ae,A2];lia
        . refine⟨_,rfl,zax hrw (s6.trans s7),?_⟩;have hyi:y=d0.2+h-1-i:=by lia
          rw[zaa,Cm,Ak,hyi,<- List.cons_append,Ak];rfl
    . rintro σ H6 ⟨o,rfl,s6,e6⟩;refine⟨rfl,_,rfl,_,rw,_,rfl,rfl,e6,?_,?_⟩
      . have := zex (ys := (tS l ++ Aa " " ++ tS d0.2) :: (A3 h).map λk:Nat => lineS (isIn cs) l n (d0.2 + h-1-k)) (B := 65) λz hz => by
          rcases Ax.mp hz with rfl |hz
          . rw[zaz,zaz];lia
          . obtain⟨k,_,rfl⟩:=AO.mp hz;have:=zeh (isIn cs) l n (d0.2+h-1-k);lia
        rw[AD,Ae,A2]at this ⊢;have e:(Aa "\n").length=1:=rfl;rw[e];lia
      . exact kd H6 (s03.trans (s4.trans s6))
theorem zg5{ns:List Int}{a b:Int}(h:IsMin ns a)(k:IsMin ns b):a=b:=Int.le_antisymm (h.2 _ k.1) (k.2 _ h.1)
theorem zjc{ns:List Int}{a b:Int}(h:IsMax ns a)(k:IsMax ns b):a=b:=Int.le_antisymm (k.2 _ h.1) (h.2 _ k.1)
theorem zgZ{cs:List Cell}(h:InOrd cs):cs.Nodup:=(zis h).imp λ{a b} q e=>by subst e;simp[HT.lexLt]at q
theorem zjb{K:W.Frag}{H:Hp}{a:Addr}{vs:List V}{cs:List Cell}(e:SqL K H a vs)(h:VR vs cs cR H){q:Addr}{Q:VK}(f:H q=some (.lst []))(k:Q (.bl (decide (cs=[]))) H):rEqD K (.ref a) (.ref q) H Q:=by
 refine⟨lT (cs.map cI),lT [],zd3 e h,.lst (SqL.of f) .nil,zeC _,zeC _,?_⟩;rw[zgg];have:(cs.map cI).isEmpty=decide (cs=[]):=by cases cs <;> rfl
 rw[this];exact k
noncomputable def zfC (K:W.Frag):Sp:=λvs H Q _=>∃(a:Addr) (cs:List Cell),vs=[.ref a]/\LR K H a cs cR/\InOrd cs/\cs.length<=120/\(∀c∈cs,CellM c)/\(cs=[]->∀H',Same H H'->Q (.str "") H') /\
 (cs≠[]->∃c0 c1 l r,cs[0]?=some c0/\cs[cs.length-1]?=some c1/\IsMin (cs.map Prod.fst) l/\IsMax (cs.map Prod.fst) r/\r-l<60/\c1.2-c0.2<60/\∀H',Same H H'->Q (.str (drawS (isIn cs) l c0.2 (r-l+1).toNat (c1.2-c0.2+1).toNat)) H')
theorem zeN (T:Txt P w K mg) (g__law_lot:Fn P w K mg base 1 "_law_lot" ["_law_cells_here"] (spLot K)) (d:Df K mg "_law_drawn" zbg ["_law_cells_here"]):FnOk P w K mg base CX0 2 d.f d.fd ["_law_cells_here"] (zfC K):=by
  refine d.F.ok za2 (λvs H Q E h=>?_) (λcdv A outer s H vs Q E hr h=>?_)
  . obtain⟨a,cs,rfl,_⟩:=h;rfl
  . obtain⟨a,cs,rfl,⟨ws,hq,hn,hc⟩,ho,hlen,hM,k0,k⟩:=h;have hu1:=hu_of hr;have hu64:=hr.units;have nb0:(["_law_x","_law_y"]:List Str).Nodup:=by decide +kernel
    have nb1:(["_law_x","_law_there","_law_y"]:List Str).Nodup:=by decide +kernel
    refine⟨_,(zac (ps_if (zar (zg1 hu64) (pv 0) (za0 zab) (zaw _))
      (zag (zay zai))
      zaH)
      (zac (zdK (i:=1) za2.nd (by rfl) (CD rfl) (pC g__law_lot hr (pa_N (pv 0) zab)))
      (zac (zfJ (i:=2) (osc:=zae zbg) (N:=zbB) (N':=["_law_x","_law_y"]) (sel:=[none,none]) bO za2.nd (by rfl) (Or.inl rfl) (zbM (pv 0)) (λ_ _ _ _ _=>(zfj (K:=K) (n:=2) (by rfl) (zaq (nG 0 nb0) (zaq (nG 1 nb0) zbN)))) (λ_ _ _ _ _=>za3) (λ_ _ _ _ _=>(pv 0)))
      (zac (sE 3 za2.nd (za0 (pa_B (pe_op zbb (pe_op zbb (zbj zbZ (by rfl) T.nstr (by rfl) (zaf (zah (zdo rfl) (by rfl) T.nmin (by rfl) (pa_N (pv 2) zab)) zab)) zai) (zbj zbZ (by rfl) T.nstr (by rfl) (zaf (pe_ix zcb (pe_ix zao (pv 0) zad (λ_ _=>rfl)) zad (λ_ _=>rfl)) zab))) zab)))
      (zac (zbG Bx rfl (zi1 (by rfl) T.nrange (zaf (pe_ix zcb (pe_ix zao (pv 0) (pe_un zcl zad) (λ_ _=>rfl)) zad (λ_ _=>rfl)) (pa_B (pe_op zbV (pe_ix zcb (pe_ix zao (pv 0) zad (λ_ _=>rfl)) zad (λ_ _=>rfl)) zad) (pa_U (pe_un zcl zad) zab)))) (zba (i:=4) za2.nd (by rfl) (CD rfl))
      (zag (za9 (pe_bm AR Ba Bb za6 (pv 3) (zaf (pe_bm An AT AU zbl zai (zaf (zaO (osc:=zae zbg) (N:=zbB) (N':=["_law_x","_law_there","_law_y"]) (sel:=[none,some 1,some 4]) bO (zeK (by rfl) T.nrange (zaf (zah (zdo rfl) (by rfl) T.nmin (by rfl) (pa_N (pv 2) zab)) (pa_B (pe_op zaI (zah (ze4 rfl) (by rfl) T.nmax (by rfl) (pa_N (pv 2) zab)) zad) zab))) (λ_ _ _ _ _=>(nG 0 nb1)) (λ_ _ _ _ _=>za3) (λ_ _ _ _ _=>(pe_ix zdR zai (zbj ze5 (by rfl) T.nint (by rfl) (zaf (zjP (zir hu1 (za4 (pa_N (pv 0) (pa_N (pv 2) zab))) (pv 1))) zab)) (λ_ _=>rfl)))) zab)) zab)))))
      (zag (zay (pe_bm An AT AU zbl zai (pa_N (pv 3) zab))))))))),?_⟩
    refine⟨_,rfl,A1 _,λq hqn=>?_⟩;have s1:=Same.up (o:=.lst []) hqn;have q1:upd H q (.lst []) q=some (.lst []):=zaa;generalize upd H q (.lst [])=H1 at s1 q1;have hv1:VR ws cs cR H1:=⟨hn,λi x v h1 h2=>(hc i x v h1 h2).same s1⟩;refine zjb (s1.seq hq) hv1 q1 ⟨_,rfl,?_⟩;refine ite2 (λhz=>k0 (of_decide_eq_true hz) H1 s1) (λhz=>?_);have hcs:cs≠[]:=λz=>hz (decide_eq_true z)
    obtain⟨d0,d1,l,r,c0,c1,hl,hrr,hw60,hh60,kd⟩:=k hcs;have hcl:0<cs.length:=B6.mpr hcs
    have hkv:VR ws (cs.map kC) keyR H1:=by refine⟨by rw[Ae];exact hn,λi x v h1 h2=>?_⟩;rw[A8]at h1;obtain⟨c,hci,rfl⟩:=BN.mp h1;exact hv1.2 i c v hci h2
    refine⟨_,rfl,a,ws,cs.map kC,rfl,s1.seq hq,hkv,?_,by rw[Ae];lia,λt H2 ht s2 et=>?_⟩
    . exact (zgZ ho).map kC λx y z e=>z (zfR.mp e)
    have s02:=s1.trans s2;have hv2:VR ws cs cR H2:=⟨hn,λi x v h1 h2=>(hc i x v h1 h2).same s02⟩;refine zij (j:=0) (i:=0) (m:=2) (by decide) rfl (s02.seq hq) hv2 (by lia) λg H3 hg s3 e3=>?_
    have hcol:cs.map (colD 0)=cs.map Prod.fst:=Da λc _=>rfl
    rw[hcol]at e3;have hne:cs.map Prod.fst≠[]:=λz=>hcs (List.map_eq_nil_iff.mp z)
    have hwl:0<ws.length:=by lia
    have w0:ws[0]?=some ws[0]:=Ad hwl;have w1:ws[ws.length-1]?=some ws[ws.length-1]:=Ad (by lia)
    obtain⟨b0,eb0,q0⟩:=hv2.2 0 _ _ c0 w0;obtain⟨b1,eb1,q1'⟩:=hv2.2 _ _ _ (by rw[hn];exact c1) w1;rw[eb0]at w0;rw[eb1]at w1;have s03:=s02.trans s3;have m0:=hM d0 (AQ c0);obtain⟨cl,hcl1,hcl2⟩:=AO.mp hl.1;have ml:NearI l:=by rw[<- hcl2];exact (hM cl hcl1).1
    have ll:=zdQ ml;have lo:=zdQ m0.2;have hz1:∀n,n<=1000->n<=sizeLine:=λn hn=>Nat.le_of_lt (zaF hn)
    have l1:(Aa " ").length=1:=rfl;have hσ:L2.start zbB [V.ref a]=[some (.ref a),none,none,none,none]:=rfl;rw[hσ];simp only[zaA,AF,AG];refine⟨_,rfl,g,_,rfl,SqL.of e3,hne,λl' hl'=>?_⟩;obtain rfl:=zg5 hl hl';refine⟨l,rfl,zc3 ml,_,_,rfl,rfl,hz1 _ (by show (tS l).length+_<=1000;lia),?_⟩;refine⟨_,rfl,a,ws,0,_,rfl,rfl,s03.seq hq,zas w0,b0,_,1,_,rfl,rfl,SqT.of (s3 _ _ q0),rfl,d0.2,rfl,zc3 m0.2,_,_,rfl,rfl,hz1 _ (by rw[zaz];show (tS l).length+_+(tS d0.2).length<=1000;lia),(by show 1<=sizeLine;decide),λrw hrw=>?_⟩;have s5:=Same.up (o:=.lst [.str (tS l++Aa " " ++ tS d0.2)]) hrw;have e5:upd H3 rw (.lst [.str (tS l++Aa " " ++ tS d0.2)]) rw=some (.lst [.str (tS l++Aa " " ++ tS d0.2)]):=zaa;generalize upd H3 rw (.lst [.str (tS l++Aa " " ++ tS d0.2)])=H5 at s5 e5;simp only[zaA,AF,AG];have hle:d0.2<=d1.2:=(zd5 ho c0 c1 d0 (AQ c0)).2;have s05:=s03.trans s5;refine⟨_,rfl,_,rfl,a,ws,-1,_,rfl,rfl,s05.seq hq,(RR.atI_last hwl).trans w1,b1,_,1,_,rfl,rfl,SqT.of ((s3.trans s5) _ _ q1'),rfl,?_⟩;refine⟨_,rfl,a,ws,0,_,rfl,rfl,s05.seq hq,zas w0,b0,_,1,_,rfl,rfl,SqT.of ((s3.trans s5) _ _ q0),rfl,_,_,rfl,rfl,_,rfl,d1.2,d0.2-1,rfl,?_⟩;have hnn:(d1.2-(d0.2-1)).toNat=(d1.2-d0.2+1).toNat:=by congr 1;lia
    rw[hnn];generalize hh:(d1.2-d0.2+1).toNat=h at *;generalize hw:(r-l+1).toNat=n at *
    refine zfU (λi σ H6=>∃o,σ=[some (.ref a),some (.ref t),some (.ref g),some (.ref rw),o]/\Same H3 H6 /\
      H6 rw=some (.lst (((tS l++Aa " " ++ tS d0.2)::(A3 i).map λk:Nat=>lineS (isIn cs) l n (d0.2+h-1-k)).map V.str))) ⟨_,rfl,s5,e5⟩ ?_ ?_
    . rintro i σ H6 hi ⟨o,rfl,s6,e6⟩;simp only[zaA,AF,AG];refine⟨_,rfl,.inl ⟨rfl,_,SqL.of e6⟩,rfl,_,rfl,g,_,rfl,SqL.of (s6 _ _ e3),hne,λl' hl'=>?_⟩;obtain rfl:=zg5 hl hl';refine⟨_,rfl,g,_,rfl,SqL.of (s6 _ _ e3),hne,λr' hr'=>?_⟩;obtain rfl:=zjc hrr hr';refine⟨_,_,rfl,rfl,l,r+1,rfl,λq hq=>?_⟩;have hwn:(r+1-l).toNat=n:=by rw[<- hw];congr 1;lia
      rw[hwn];have hyi:d1.2-(i:Int)=d0.2+h-1-i:=by lia
      generalize hy:d1.2-(i:Int)=y at *;refine zaJ (λj σ H7=>∃o,σ=[o,some (.ref t),some (.int y)]/\Same H6 H7/\H7 q=some (.lst (((A3 j).map λk:Nat=>signS (isIn cs (l+k,y))).map V.str))) ⟨_,rfl,Same.up hq,zaa⟩ ?_ ?_
      . rintro j σ H7 hj ⟨o2,rfl,s7,e7⟩;refine gN ?_
        have et6:H7 t=some (.dT (tru (cs.map kC))):=s7 _ _ (s6 _ _ (s3 _ _ et));refine⟨_,rfl,_,rfl,two,λz hz=>⟨_,rfl,t,_,rfl,.inr ⟨_,kC (l+j,y),z,Rd.of (Same.up hz _ _ et6),rfl,zaa,rfl⟩,.inr ⟨_,rfl,?_⟩⟩⟩;rw[zhD];have s8:=Same.up (o:=.tup [V.int (l+j),V.int y]) hz
        have fin:∀x:Str, x=signS (isIn cs (l + j, y)) -> ∃xs, upd H7 z (.tup [V.int (l + j), V.int y]) q=some (.lst xs) /\ xs.length < sizeLine /\ ∃o, [some (V.int (l + j)), some (V.ref t), some (V.int y)] = [o, some (V.ref t), some (V.int y)] /\ Same H6 (upd (upd H7 z (.tup [V.int (l + j), V.int y])) q (.lst (xs ++ [V.str x]))) /\
            upd (upd H7 z (.tup [V.int (l+j),V.int y])) q (.lst (xs++[V.str x])) q=some (.lst (((A3 (j+1)).map λk:Nat=>signS (isIn cs (l+k,y))).map V.str)):=λx hx=>by
          refine⟨_,s8 _ _ e7,zaF (by rw[Ae,Ae,A2];lia),_,rfl,zax hq (s7.trans s8),?_⟩;rw[zaa,Cm,Ak,Ak,hx];rfl
        cases hb:isIn cs (l+j,y) with
        |true=>exact⟨_,_,_,rfl,rfl,(by show 2<=sizeLine;decide),rfl,fin _ (by rw[hb];rfl)⟩
        |false=>exact⟨_,_,_,rfl,rfl,(by show 2<=sizeLine;decide),rfl,fin _ (by rw[hb];rfl)⟩
      . rintro σ H7 ⟨o2,rfl,s7,e7⟩;refine⟨_,q,_,rfl,rfl,e7,?_,rw,_,_,rfl,rfl,s7 _ _ e6,zaF ?_,?_⟩
        . have := zex (ys := (A3 n).map λk:Nat => signS (isIn cs (l + k, y))) (B := 1) λz hz => by obtain⟨k,_,rfl⟩:=AO.mp hz;rw[zeg];exact Ai _
          rw[Ae,A2]at this ⊢;have e:(Aa "").length=0:=rfl;rw[e];lia
        . rw[Ae,AD,Ae,A2];lia
        . refine⟨_,rfl,zax hrw (s6.trans s7),?_⟩;rw[zaa,Cm,Ak,hyi,<- List.cons_append,Ak];rfl
    . rintro σ H6 ⟨o,rfl,s6,e6⟩;refine⟨rfl,_,rfl,_,rw,_,rfl,rfl,e6,?_,?_⟩
      . have := zex (ys := (tS l ++ Aa " " ++ tS d0.2) :: (A3 h).map λk:Nat => lineS (isIn cs) l n (d0.2 + h-1-k)) (B := 65) λz hz => by
          rcases Ax.mp hz with rfl |hz
          . rw[zaz,zaz];lia
          . obtain⟨k,_,rfl⟩:=AO.mp hz;have:=zeh (isIn cs) l n (d0.2+h-1-k);lia
        rw[AD,Ae,A2]at this ⊢;have e:(Aa "\n").length=1:=rfl;rw[e];lia
      . exact kd H6 (s03.trans s6)
end
end RR
set_option maxRecDepth 700000
namespace RR
open PySem L2 RP
theorem zal{n:Nat}(h:n<=1000000):n<=sizeLine:=AK h (by decide)
section
variable {P:Am}{w:AB}{K:W.Frag}{mg:Str->Option Value}{base:Heap}
noncomputable def figB(l:List Nat):Bool:=!l.isEmpty && l.all digB
noncomputable def zgF:Sp:=λvs H Q _=>∃x:Str,vs=[.str x]/\x.length<=700000/\∀H',Same H H'->Q (.bl (figB (cl x))) H'
theorem zdz (T:Txt P w K mg){tFI:Tok}(hFI:mg "FIGURES" = some (.str "0123456789" tFI)) (d:Df K mg "are_figures" zbm ["word"]):FnOk P w K mg base CX0 1 d.f d.fd ["word"] zgF:=by
 refine d.F.ok zdt (λvs H Q E h=>?_) (λcdv A outer s H vs Q E hr h=>?_)
 .obtain⟨x,rfl,_⟩:=h;rfl
 .obtain⟨x,rfl,hl,k⟩:=h;have nb0:(["sign"]:List Str).Nodup:=by decide +kernel
  refine⟨_,(zag (zay (zdd (za5 op_ne (pv 0) zai (zaw _)) (zdL (zah (zcz rfl) (by rfl) T.nall (by rfl) (zaf (zaO (osc:=zae zbm) (N:=zcA) (N':=["sign"]) (sel:=[none]) bO (zgW (pv 0)) (λ_ _ _ _ _=>(nG 0 nb0)) (λ_ _ _ _ _=>za3) (λ_ _ _ _ _=>(za5 zct (pv 0) (zbD (v:=.str "0123456789") (by rfl) hFI ⟨_,rfl⟩) rfl))) zab)))))),?_⟩;have hcl:=zap x;refine⟨_,rfl,rfl,_,rfl,?_⟩
  have hne:decide (V.str x=V.str (Aa ""))=(cl x).isEmpty:=by
   cases q:(cl x).isEmpty with
   |true =>
    refine decide_eq_true (congrArg V.str (ze0 ?_));have:cl x=[]:=by simpa using q
    rw[this];decide +kernel
   |false =>
    refine decide_eq_false λz=>?_
    injection z with z;rw[z]at q;exact absurd q (by decide +kernel)
  by_cases he:(cl x).isEmpty=true
  .rw[hne,he];refine iteF ?_
   have:figB (cl x)=false:=by unfold figB;rw[he];rfl
   rw[<- this];exact k H (Same.refl _)
  .have he:=AN.mpr he;rw[hne,he];refine iteT ?_
   refine⟨_,rfl,x,rfl,λq hq=>?_⟩;refine zfq (λj σ H9=>∃o,σ=[o]/\Same H H9/\H9 q=some (.lst ((((cl x).take j).map digB).map V.bl))) ⟨_,rfl,Same.up hq,zaa⟩ ?_ ?_
   .rintro j c σ H9 hc ⟨o,rfl,s9,e9⟩;have hc':(cl x)[j]?=some c:=by rw[<- hc];simp
    have hj:=(Aj.mp hc').1;refine gN ?_
    refine⟨_,rfl,_,_,rfl,rfl,?_⟩;rw[StrLaws.found_one,zhk];refine⟨_,e9,A6 (m:=700000) (by simp only[Ae,AJ];lia) (by decide),_,rfl,zax hq s9,?_⟩;rw[zaa,zbe hc',Ak,Ak];rfl
   .rintro σ H9 ⟨o,rfl,s9,e9⟩;rw[AL (by rw[hcl];exact Ai _)]at e9;refine⟨q,_,rfl,SqL.of e9,?_⟩;have:figB (cl x)=((cl x).map digB).all id:=by unfold figB;rw[he,List.all_map];rfl
    rw[<- this];exact k H9 s9
noncomputable def optI:Option Int->V
 |none=>.non
 |some n=>.int n
noncomputable def numIn(x:Str):Option Int:=if zcv (cl x)=true then some (zby (cl x)) else none
noncomputable def zgD:Sp:=λvs H Q _=>∃x:Str,vs=[.str x]/\x.length<=700000/\∀H',Same H H'->Q (optI (numIn x)) H'
theorem zeM (T:Txt P w K mg){tMF:Tok}(hMF:mg "MOST_FIGURES" = some (.int 30 tMF)) (g_are_figures:Fn P w K mg base 1 "are_figures" ["word"] zgF) (d:Df K mg "number_in" zcg ["word"]):FnOk P w K mg base CX0 2 d.f d.fd ["word"] zgD:=by
  refine d.F.ok zbS (λvs H Q E h=>?_) (λcdv A outer s H vs Q E hr h=>?_)
  . obtain⟨x,rfl,_⟩:=h;rfl
  . obtain⟨x,rfl,hl,k⟩:=h
    refine⟨_,(zac (sE 1 zbS.nd (zd4 (zdb (pe_bm An PySem.F.slot_str_startswith PySem.F.type_str_startswith zee (pv 0) (pa_C zai zab))) (zau zbR (pv 0) (zaD zad) zaE) (pv 0)))
      (zac (ps_if (pw_or (zcr (zdb (pC g_are_figures hr (pa_N (pv 1) zab)))) (zcq (zar op_gt (zah zat (by rfl) T.nlen (by rfl) (pa_N (pv 1) zab)) (zbD (v:=.int 30) (by rfl) hMF ⟨_,rfl⟩) (zaw _)))).pt
      (zag (zay zcP))
      zaH)
      (zac (sE 2 zbS.nd (zbj zcT (by rfl) T.nint (by rfl) (pa_N (pv 0) zab)))
      (zag (zay (zd4 (zar op_eq (zbj zbZ (by rfl) T.nstr (by rfl) (pa_N (pv 2) zab)) (pv 0) (zaw _)) (pv 2) zcP)))))),?_⟩
    have hcl:=zap x;have e45:Aa "-" = ⟨#[45]⟩:=by decide +kernel
    have tail:∀y:Str, cl y=figOf (cl x) -> tSeq (tIfS (tOr (tNot (tB (tCall zgF [] E0 (tCons (tVar 1) tNil)))) (tTest (tOp (rI0 λi j => V.bl (decide (j < i))) (tCB (λxs H Q => ∃z:Str, xs = [V.str z] /\ z.length <= sizeLine /\ Q (V.int (z.length:Nat)) H) (tCons (tVar 1) tNil)) (tC (V.int 30))))) (tRet (tC V.non)) tNext)
        (tSeq (tAsg (tCB (λxs H Q=>∃(x:Str) (n:Int),xs=[V.str x]/\intText? x=some n/\x.length<=640/\Q (V.int n) H) (tCons (tVar 0) tNil)) (gName 2))
          (tRet (tIf (tTest (tOp rEq (tCB (λxs H Q=>∃i:Int,xs=[V.int i]/\i.natAbs.log2<1920/\Q (V.str (Aa (Cf i))) H) (tCons (tVar 2) tNil)) (tVar 0))) (tVar 2) (tC V.non)))) { nx:=λx H'=>Q V.non H',rt:=Q } [some (.str x),some (.str y),none] H:=λy hy=>by
      have hyle:y.length<=700000:=by
        rw[<- zap,hy];unfold figOf;split
        . rw[AC];lia
        . lia
      refine⟨_,rfl,y,rfl,hyle,λH1 s1=>⟨_,rfl,?_⟩⟩
      have hno:zcv (cl x)=false->∀H',Same H H'->Q .non H':=λz H' s=>by have:=k H' s;unfold numIn at this;rw[z,if_neg (by decide)]at this;exact this
      unfold zcv at hno
      by_cases hf:figB (cl y)=true
      rotate_left
      . have hf:=AN.mpr hf;rw[hf];refine iteT (iteT ?_);refine hno ?_ H1 s1;rw[hy]at hf;unfold figB at hf;rw[<- Bool.and_assoc,hf];rfl
      rw[hf];refine iteF ?_
      refine⟨_,rfl,y,rfl,zal (by lia),_,_,rfl,rfl,_,rfl,?_⟩;have hf2:=hf;rw[hy]at hf2;unfold figB at hf2;rw[AX]at hf2;obtain⟨hf3,hf4⟩:=hf2;have hlen:y.length=(figOf (cl x)).length:=by rw[<- zap,hy]
      by_cases h30:(figOf (cl x)).length<=30
      rotate_left
      . refine iteY (decide_eq_true (by lia)) ?_
        refine hno ?_ H1 s1;rw[decide_eq_false h30,Bool.false_and,CV,CV]
      refine iteN (decide_eq_false (by lia)) ?_
      have h0:figOf (cl x)≠[]:=by simpa using hf3
      have hd:=zft.mp hf4;obtain⟨hi,hx640⟩:=zeS h0 hd h30;refine⟨_,rfl,x,_,rfl,hi,hx640,?_⟩
      have hv:(zby (cl x)).natAbs<10 ^ 30:=by
        unfold figOf at h0 hd h30;unfold zby
        by_cases hh:(cl x).head?=some 45
        . rw[if_pos hh]at hd h30 ⊢;have:=zes _ _ rfl hd;have:=Cp (n:=10) (by decide) h30;lia
        . rw[if_neg hh]at hd h30 ⊢;have:=zes _ _ rfl hd;have:=Cp (n:=10) (by decide) h30;lia
      have hlog:(zby (cl x)).natAbs.log2<1920:=by
        by_cases hz:(zby (cl x)).natAbs=0
        . rw[hz];decide
        . exact (Nat.log2_lt hz).mpr (AE hv (by decide +kernel))
      refine⟨_,rfl,_,rfl,hlog,_,rfl,rfl,_,rfl,?_⟩;have hw:=zep h0 hd
      have hdec:decide (V.str (Aa (Cf (zby (cl x))))=V.str x)=(decide (cl x=[48]) ||decide ((figOf (cl x)).head?≠some 48)):=by rw[<- Bool.decide_or];exact decide_eq_decide.mpr ⟨λz=>hw.mp (by injection z),λz=>congrArg V.str (hw.mpr z)⟩
      have kk:=k H1 s1;unfold numIn zcv at kk;rw[hf3,hf4,decide_eq_true h30,<- hdec]at kk;simp only[CN]at kk
      by_cases hh:decide (V.str (Aa (Cf (zby (cl x))))=V.str x)=true
      . rw[if_pos hh]at kk;refine iteY hh ?_
        exact⟨_,rfl,kk⟩
      . rw[if_neg hh]at kk;refine iteN (AN.mpr hh) ?_
        exact kk
    refine⟨_,rfl,rfl,x,_,rfl,rfl,_,rfl,?_⟩
    by_cases hs:Txt.startswith x (Aa "-")=true
    . refine iteY hs ?_
      refine⟨_,rfl,1,rfl,x,rfl,zal (by lia),?_⟩;refine tail _ ?_
      rw[e45]at hs;unfold figOf;rw[if_pos ((zdF x 45).mp hs),zgH]
    . refine iteN (AN.mpr hs) ?_
      refine⟨_,rfl,?_⟩;refine tail _ ?_
      rw[e45]at hs;unfold figOf;rw[if_neg (λz=>hs ((zdF x 45).mpr z))]
end
end RR
set_option maxRecDepth 700000
namespace RR
open PySem L2 RP
section
variable {P:Am}{w:AB}{K:W.Frag}{mg:Str->Option Value}{base:Heap}
noncomputable def spT:Str:=Aa " "
noncomputable def numW(ws:List Str)(i:Nat):Option Int:=ws[i]?.bind numIn
noncomputable def badW(ws:List Str):Option Nat:=if numW ws 0=none then some 0 else if numW ws 1=none then some 1 else if 2<ws.length then some 2 else none
noncomputable def ntO (row word:Nat) (d:Addr):HO:=xdO d [("row",.int (row:Int)),("word",.int (word:Int))]
noncomputable def zfB (K:W.Frag) (cNT:Addr):Sp:=λvs H Q E=>∃(x:Str) (at_:Nat) (p:Addr),vs=[.str x,.int (at_:Int),.ref p]/\x.length<=700000/\SqT K H p [.str "number",.str "number"] /\
 (∀n d H',badW (Af x spT)=some n->Same H H'->H' d=none->E (.ref cNT) (some d) (upd H' d (ntO at_ n d))) /\
 (∀t H' n m,(Af x spT).length=2->numW (Af x spT) 0=some n->numW (Af x spT) 1=some m->Same H H'->H t=none->H' t=some (.tup [.int n,.int m])->Q (.ref t) H')
theorem zdu (T:Txt P w K mg){cNT fs fn fr:Addr}(g_NoText:ExA P w K mg base "NoText" cNT ["row","word"]) (g_number_in:Fn P w K mg base 2 "number_in" ["word"] zgD) (hRD:Rds3 P w K mg fs g_number_in.f fr) (d:Df K mg "things_read" zbJ ["text","at","forms"]):FnOk P w K mg base (CX1 P w) 3 d.f d.fd ["text","at","forms"] (zfB K cNT):=by
 refine d.F.okX zaN (λvs H Q E h=>?_) (λcdv A outer s H vs Q E hr h=>?_)
 .obtain⟨x,n,p,rfl,_⟩:=h;rfl
 .obtain⟨x,at_,p,rfl,hl,hp,kb,kg⟩:=h
  refine⟨_,(zac (PS.nox (sE 3 zaN.nd (pe_bm An Bg Bh zbz (pv 0) (pa_C zai zab))))
   (zac (PS.nox (sE 4 zaN.nd (za0 zab)))
   (zac (zbG PassesOwn.leaving rfl (zbi (by rfl) T.nrange (zaf (zah (ze3 rfl) (by rfl) T.nmin (by rfl) (zaf (zah zaj (by rfl) T.nlen (by rfl) (pa_N (pv 3) zab)) (zaf (zah zaj (by rfl) T.nlen (by rfl) (pa_N (pv 2) zab)) zab))) zab)) (nG 5 zaN.nd)
   (zac (PS.nox (sE 6 zaN.nd (zi3 (by rfl) hRD (pe_ix zcb (pv 2) (pv 5) (λ_ _=>rfl)))))
   (zac (PS.nox (sE 7 zaN.nd (zhR g_number_in.ok (hr.mono (by decide)) g_number_in.kp g_number_in.b .nil pass0 (pv 6) (zaf (pe_ix zao (pv 3) (pv 5) (λ_ _=>rfl)) zab))))
   (zac (ps_if (PT.nox (zar ziv (pv 7) zcP (zaw _))) (zag (zcs g_NoText hr (pa_N (pv 1) (pa_N (pv 5) zab)))) zaH)
   (zag (PS.nox (za9 (pe_bm AR Ba Bb za6 (pv 4) (pa_N (pv 7) zab)))))))))
   (zac (ps_if (PT.nox (zar op_ne (zah zaj (by rfl) T.nlen (by rfl) (pa_N (pv 3) zab)) (zah zaj (by rfl) T.nlen (by rfl) (pa_N (pv 2) zab)) (zaw _))) (zag (zcs g_NoText hr (pa_N (pv 1) (zaf (zah (ze3 rfl) (by rfl) T.nmin (by rfl) (zaf (zah zaj (by rfl) T.nlen (by rfl) (pa_N (pv 3) zab)) (zaf (zah zaj (by rfl) T.nlen (by rfl) (pa_N (pv 2) zab)) zab))) zab)))) zaH)
   (zag (PS.nox (zay (zbj zek (by rfl) T.ntuple (by rfl) (pa_N (pv 4) zab))))))))),?_⟩
  have hW:∀y∈Af x spT,y.length<=700000:=λy hy=>by have:=join_mem_le spT _ y hy;rw[BH]at this;lia
  have hWl:(Af x spT).length<=700002:=by have:=Ch x spT;lia
  refine⟨_,rfl,rfl,x,_,rfl,rfl,rfl,zal (by lia),λpw hpw=>?_⟩;have s1:=Same.up (o:=.lst ((Af x spT).map V.str)) hpw;have e1:upd H pw (.lst ((Af x spT).map V.str)) pw=some (.lst ((Af x spT).map V.str)):=zaa;show tSeq _ _ _ _ (upd H pw (.lst ((Af x spT).map V.str)));generalize upd H pw (.lst ((Af x spT).map V.str))=H1 at s1 e1;generalize Af x spT=ws at *;refine⟨A1 _,λq hq=>?_⟩;have s2:=Same.up (o:=.lst []) hq;have e2:upd H1 q (.lst []) q=some (.lst []):=zaa;generalize upd H1 q (.lst [])=H2 at s2 e2;have hwl:(ws.map V.str).length=ws.length:=Ae _;have hlen2:∀H',Same H H'->SqT K H' p [.str "number",.str "number"]:=λH' s=>s.seqT hp
  refine⟨_,rfl,pw,_,rfl,.inl (SqL.of (s2 _ _ e1)),_,rfl,p,_,rfl,.inr (hlen2 _ (s1.trans s2)),?_⟩;rw[hwl]
  have hmin:(if ((2:Nat):Int)<(ws.length:Int) then ((2:Nat):Int) else (ws.length:Int))=((min ws.length 2:Nat):Int):=by split <;> lia
  refine⟨_,_,rfl,?_⟩;have hj:(V.int (if ((2:Nat):Int)<(ws.length:Int) then ((2:Nat):Int) else (ws.length:Int)))=V.int ((min ws.length 2:Nat):Int):=by rw[hmin]
  refine⟨((min ws.length 2:Nat):Int),by exact congrArg (λz=>[z]) hj,by lia,by lia,?_⟩;rw[BY]
  refine zaJ (lo:=0) (n:=min ws.length 2) (λi σ H3=>∃o5 o6 o7 ns,σ=[some (.str x),some (.int at_),some (.ref p),some (.ref pw),some (.ref q),o5,o6,o7]/\Same H1 H3/\H3 q=some (.lst (ns.map V.int))/\ns.length=i/\∀j,j<i->∃n,numW ws j=some n/\ns[j]?=some n)
   ⟨_,_,_,[],rfl,s2,e2,rfl,λj hj=>absurd hj (Nat.not_lt_zero _)⟩ ?_ ?_
  .rintro i σ H3 hi ⟨o5,o6,o7,ns,rfl,s3,e3,hnl,hns⟩;simp only[zaA,AF,AG];have hp3:SqT K H3 p [.str "number",.str "number"]:=hlen2 _ (s1.trans s3)
   have hi2:([V.str (Aa "number"),V.str (Aa "number")]:List V)[i]?=some (.str "number"):=by
    match i,hi with
    | 0,_=>rfl
    | 1,_=>rfl
    |i+2,hi=>exact absurd hi (by lia)
   have hiw:i<ws.length:=by lia
   have hwi:ws[i]?=some ws[i]:=Ad hiw;generalize ws[i]=y at hwi;have hwiV:(ws.map V.str)[i]?=some (.str y):=by rw[A8,hwi];rfl
   refine⟨_,rfl,_,rfl,p,_,i,_,rfl,by rw[BM],hp3,zas hi2,.inl ⟨rfl,?_⟩⟩;refine⟨_,rfl,rfl,_,rfl,_,rfl,pw,_,i,_,rfl,by rw[BM],SqL.of (s3 _ _ e1),zas hwiV,?_⟩;refine⟨y,rfl,hW y (AQ hwi),λH4 s4=>⟨_,rfl,rfl,_,rfl,?_⟩⟩;have hnw:numW ws i=numIn y:=by unfold numW;rw[hwi];rfl
   cases hv:numIn y with
   |none =>
    refine iteT ?_
    refine⟨_,rfl,_,rfl,rfl,λdx hdx=>?_⟩;rw[BM];refine kb i dx H4 ?_ (s1.trans (s3.trans s4)) hdx;unfold badW
    match i,hi,hns,hnw with
    | 0,_,_,hnw=>rw[hnw,hv,if_pos rfl]
    | 1,_,hns,hnw =>
     obtain⟨n,hn,_⟩:=hns 0 (by decide);rw[hn,if_neg (λz=>nomatch z),hnw,hv,if_pos rfl]
    |i+2,hi,_,_=>exact absurd hi (by lia)
   |some n =>
    refine iteF ?_
    have e4:=s4 _ _ e3;refine⟨_,rfl,.inl ⟨rfl,_,SqL.of e4⟩,_,rfl,q,_,_,rfl,rfl,e4,A6 (m:=700000) (by rw[Ae];lia) (by decide),?_⟩;refine⟨_,_,_,ns++[n],rfl,zax hq (s3.trans s4),?_,by rw[At,hnl];rfl,λj hj=>?_⟩
    .rw[zaa,Ak];rfl
    .by_cases hji:j<i
     .obtain⟨m,hm,hm2⟩:=hns j hji;exact⟨m,hm,by rw[BA (Aj.mp hm2).1];exact hm2⟩
     .obtain rfl:j=i:=by lia
      exact⟨n,hnw.trans hv,by rw[Bs (by lia),hnl,Nat.sub_self];rfl⟩
  .rintro σ H3 ⟨o5,o6,o7,ns,rfl,s3,e3,hnl,hns⟩;refine⟨_,rfl,pw,_,rfl,.inl (SqL.of (s3 _ _ e1)),_,rfl,p,_,rfl,.inr (hlen2 _ (s1.trans s3)),rfl,_,rfl,?_⟩
   have hdec:decide (V.int (((ws.map V.str).length:Nat):Int)=V.int ((([V.str (Aa "number"),V.str (Aa "number")]:List V).length:Nat):Int))=decide (ws.length=2):=by rw[hwl];refine decide_eq_decide.mpr ⟨λz=>?_,λz=>by rw[z];rfl⟩;injection z with z;have z:((ws.length:Nat):Int)=2:=z;lia
   rw[hdec]
   by_cases h2:ws.length=2
   .rw[decide_eq_true h2];refine iteF ?_
    obtain⟨n,hn,hn2⟩:=hns 0 (by lia);obtain⟨m,hm,hm2⟩:=hns 1 (by lia)
    have hns2:ns=[n,m]:=by
     match ns,hnl,hn2,hm2 with
     |[a,b],_,hn2,hm2=>cases hn2;cases hm2;rfl
     |[],hnl,_,_=>simp only[Bv]at hnl;lia
     |[_],hnl,_,_=>simp only[AD,Bv]at hnl;lia
     |_::_::_::_,hnl,_,_=>simp only[AD]at hnl;lia
    rw[hns2]at e3;have e3:H3 q=some (.lst [V.int n,V.int m]):=e3;refine⟨_,rfl,q,_,rfl,.inl ⟨SqL.of e3,λt ht=>?_⟩⟩;have s5:=Same.up (o:=.tup [V.int n,V.int m]) ht;exact kg t _ n m h2 hn hm (s1.trans (s3.trans s5)) ((s1.trans s3).free ht) zaa
   .rw[decide_eq_false h2];refine iteT ?_
    refine⟨_,rfl,_,rfl,pw,_,rfl,.inl (SqL.of (s3 _ _ e1)),_,rfl,p,_,rfl,.inr (hlen2 _ (s1.trans s3)),_,_,rfl,rfl,λdx hdx=>?_⟩
    have hmm:(if ((([V.str (Aa "number"),V.str (Aa "number")]:List V).length:Nat):Int)<(((ws.map V.str).length:Nat):Int) then ((([V.str (Aa "number"),V.str (Aa "number")]:List V).length:Nat):Int) else (((ws.map V.str).length:Nat):Int))=((min ws.length 2:Nat):Int):=by rw[hwl];exact hmin
    have kk:=kb (min ws.length 2) dx H3 ?_ (s1.trans s3) hdx
    .unfold ntO at kk;rw[<- hmm]at kk;exact kk
    .unfold badW
     by_cases h0:ws.length=0
     .have:numW ws 0=none:=by unfold numW;rw[CO (by lia)];rfl
      rw[this,if_pos rfl,h0];rfl
     .obtain⟨n,hn,_⟩:=hns 0 (by lia);rw[hn,if_neg (λz=>nomatch z)]
      by_cases h1:ws.length=1
      .have:numW ws 1=none:=by unfold numW;rw[CO (by lia)];rfl
       rw[this,if_pos rfl,h1];rfl
      .obtain⟨m,hm,_⟩:=hns 1 (by lia);rw[hm,if_neg (λz=>nomatch z),if_pos (by lia),show min ws.length 2=2 by lia]
noncomputable def zgB(cNT:Addr):Sp:=λvs H Q E=>∃x:Str,vs=[.str x]/\x.length<=700000 /\
 (∀n d H',badW (Af x spT)=some n->Same H H'->H' d=none->E (.ref cNT) (some d) (upd H' d (ntO 0 n d))) /\
 (∀t H' n m,(Af x spT).length=2->numW (Af x spT) 0=some n->numW (Af x spT) 1=some m->Same H H'->H t=none->H' t=some (.tup [.int n,.int m])->Q (.ref t) H')
theorem zd8 {cNT pPW:Addr}(hPW:mg "PLACE_WORDS" = some (.ref pPW)) (hpw:∀H,SqT K H pPW [.str "number",.str "number"]) (g_things_read:FnX P w K mg base 3 "things_read" ["text","at","forms"] (zfB K cNT)) (d:Df K mg "read_place" zbT ["text"]):FnOk P w K mg base (CX1 P w) 4 d.f d.fd ["text"] (zgB cNT):=by
 refine d.F.okX zdZ (λvs H Q E h=>?_) (λcdv A outer s H vs Q E hr h=>?_)
 .obtain⟨x,rfl,_⟩:=h;rfl
 .obtain⟨x,rfl,hl,kb,kg⟩:=h;refine⟨_,(zag (zay (pCX g_things_read hr (pass1 (λ_ _ _ h=>h)) (pa_N (pv 0) (pa_C zad (pa_N (zbD (v:=.ref pPW) (by rfl) hPW rfl) zab)))))),?_⟩;refine⟨_,rfl,x,0,pPW,rfl,hl,hpw H,kb,kg⟩
end
end RR
set_option maxRecDepth 700000
namespace RR
open PySem L2 RP
noncomputable def memX(s:Stmt)(j:Nat):Stmt:=match s with
 |.ClassDef _ _ _ body _ _ _ _ _ _ _=>body.getD j (.Pass ⟨0,0,0,0⟩)
 |_=>.Pass ⟨0,0,0,0⟩
noncomputable abbrev zcC:Stmt:=memX (top 4) 0
theorem zhF:FnScope ["self","row","word"] ["self","row","word"] (zae zcC):=sC
section
variable {P:Am}{w:AB}{K:W.Frag}{mg:Str->Option Value}{base:Heap}
theorem zhU {f C:Addr}{fd:A5}(F:Fun K "__init__" "NoText.__init__" zcC f fd) (xs:ExS K C) (na:zcV K C "row") (nb:zcV K C "word"):FnOk P w K mg base (CX1 P w) 1 f fd ["self","row","word"] (spI C ["row","word"]):=by
 refine F.okX zhF (λvs H Q E h=>?_) (λcdv A outer s H vs Q E hr h=>?_)
 .obtain⟨x,t,ws,rfl,hl,_⟩:=h;show ws.length+1=3;rw[hl];rfl
 .obtain⟨x,t,ws,rfl,hl,hx,k⟩:=h
  obtain⟨v,u,rfl⟩:∃v u,ws=[v,u]:=by
   match ws,hl with
   |[v,u],_=>exact⟨v,u,rfl⟩
  refine⟨_,(zac (zgT rfl (pv 0) (pv 1) rfl) (zag (zgT rfl (pv 0) (pv 2) rfl))),?_⟩;refine⟨_,rfl,_,rfl,x,C,t,rfl,xs,na,.inl ⟨hx,λd hd ne=>?_⟩⟩;refine⟨_,rfl,_,rfl,x,C,t,rfl,xs,nb,.inr ⟨d,_,?_,zaa,(by show 1<1000;decide),?_⟩⟩
  .rw[zam (BJ ne),zaa]
  .rw[zgo];exact k d hd ne
noncomputable def zcn(r f:Str):Bool:=decide (r.length=f.length) && (decide (r.length<=60) && decide ((cl r).count 35+(cl r).count 46=(cl r).length))
noncomputable def zif:Sp:=λvs H Q _=>∃r f:Str,vs=[.str r,.str f]/\r.length<=700000/\f.length<=700000/\∀H',Same H H'->Q (.bl (zcn r f)) H'
theorem zdx (T:Txt P w K mg){tMS:Tok}(hMS:mg "MOST_SIGNS" = some (.int 60 tMS)) (d:Df K mg "is_sign_row" zbK ["row","first"]):FnOk P w K mg base CX0 1 d.f d.fd ["row","first"] zif:=by
 refine d.F.ok zds (λvs H Q E h=>?_) (λcdv A outer s H vs Q E hr h=>?_)
 .obtain⟨r,f,rfl,_⟩:=h;rfl
 .obtain⟨r,f,rfl,hl,hl2,k⟩:=h;refine⟨_,(zag (zay (zdd (za5 op_eq (zah zat (by rfl) T.nlen (by rfl) (pa_N (pv 0) zab)) (zah zat (by rfl) T.nlen (by rfl) (pa_N (pv 1) zab)) (zaw _)) (zdd (za5 op_le (zah zat (by rfl) T.nlen (by rfl) (pa_N (pv 0) zab)) (zbD (v:=.int 60) (by rfl) hMS ⟨_,rfl⟩) (zaw _)) (zdL (za5 op_eq (pe_op zaI (pe_bm An CG CH zcw (pv 0) (pa_C zai zab)) (pe_bm An CG CH zcw (pv 0) (pa_C zai zab))) (zah zat (by rfl) T.nlen (by rfl) (pa_N (pv 0) zab)) (zaw _))))))),?_⟩;have e35:Aa "#" = ⟨#[35]⟩:=by decide +kernel
  have e46:Aa "." = ⟨#[46]⟩:=by decide +kernel
  have kk:=k H (Same.refl _);unfold zcn at kk;have d1:decide (V.int ((r.length:Nat):Int)=V.int ((f.length:Nat):Int))=decide (r.length=f.length):=decide_eq_decide.mpr ⟨λz=>by injection z with z;lia,λz=>by rw[z]⟩;have d2:decide (((r.length:Nat):Int)<=60)=decide (r.length<=60):=decide_eq_decide.mpr (by lia)
  have d3:decide (V.int (((occN r (Aa "#"):Nat):Int)+((occN r (Aa "."):Nat):Int))=V.int ((r.length:Nat):Int))=decide ((cl r).count 35+(cl r).count 46=(cl r).length):=by rw[e35,e46,zcu,zcu,zap];exact decide_eq_decide.mpr ⟨λz=>by injection z with z;lia,λz=>congrArg V.int (by lia)⟩
  refine⟨_,rfl,r,rfl,zal (by lia),_,rfl,f,rfl,zal (by lia),rfl,_,rfl,?_⟩;rw[d1]
  by_cases h1:decide (r.length=f.length)=true
  rotate_left
  .rw[AN.mpr h1]at kk ⊢;exact iteF kk
  rw[h1]at kk ⊢;refine iteT ?_
  refine⟨_,rfl,r,rfl,zal (by lia),_,_,rfl,rfl,_,rfl,?_⟩;rw[d2]
  by_cases h2:decide (r.length<=60)=true
  rotate_left
  .rw[AN.mpr h2]at kk ⊢;exact iteF kk
  rw[h2]at kk ⊢;refine iteT ?_
  refine⟨_,rfl,rfl,r,_,rfl,rfl,_,rfl,rfl,r,_,rfl,rfl,_,_,rfl,rfl,_,rfl,r,rfl,zal (by lia),rfl,?_⟩;rw[d3];exact kk
noncomputable def rowAt(rows:List Str)(i:Nat):Str:=rows.getD i ⟨#[]⟩
noncomputable def hc(r:Str):Nat:=(cl r).count 35
noncomputable def cum(rows:List Str):Nat->Nat
 | 0=>0
 |n+1=>cum rows n+hc (rowAt rows (n+1))
noncomputable def badR(rows:List Str)(at_:Nat):Bool:=!(zcn (rowAt rows at_) (rowAt rows 1)) || (decide (60<at_) ||decide (120<cum rows at_))
noncomputable def zeA(K:W.Frag)(cNT:Addr):Sp:=λvs H Q E=>∃(a:Addr) (rows:List Str),vs=[.ref a]/\SqL K H a (rows.map V.str)/\(∀y∈rows,y.length<=700000)/\1<=rows.length/\rows.length<=700002 /\
 (∀at_ d H',1<=at_->at_<rows.length->badR rows at_=true->(∀j,1<=j->j<at_->badR rows j=false)->Same H H'->H' d=none->E (.ref cNT) (some d) (upd H' d (ntO at_ 0 d))) /\
 ((∀j,1<=j->j<rows.length->badR rows j=false)->∀H',Same H H'->Q .non H')
theorem zaT{rows:List Str}{i:Nat}(h:i<rows.length):(rows.map V.str)[i]?=some (.str (rowAt rows i))/\rowAt rows i∈rows:=by
 have e:rows[i]?=some (rowAt rows i):=by unfold rowAt;rw[Ah,Ad h];rfl
 exact⟨by rw[A8,e];rfl,AQ e⟩
theorem zcZ (T:Txt P w K mg){cNT:Addr}{tMS tMC:Tok}(hMS:mg "MOST_SIGNS" = some (.int 60 tMS)) (hMC:mg "MOST_CELLS" = some (.int 120 tMC)) (g_NoText:ExA P w K mg base "NoText" cNT ["row","word"]) (g_is_sign_row:Fn P w K mg base 1 "is_sign_row" ["row","first"] zif) (d:Df K mg "ask_sign_rows" zbp ["rows"]):FnOk P w K mg base (CX1 P w) 3 d.f d.fd ["rows"] (zeA K cNT):=by
 refine d.F.okX zaV (λvs H Q E h=>?_) (λcdv A outer s H vs Q E hr h=>?_)
 .obtain⟨a,rows,rfl,_⟩:=h;rfl
 .obtain⟨a,rows,rfl,ha,hW,hn1,hn,kb,kg⟩:=h
  refine⟨_,(zac (PS.nox (sE 1 zaV.nd zad))
   (zag (zbG PassesOwn.leaving rfl (zdc (by rfl) T.nrange (pa_C zad (zaf (zah zaj (by rfl) T.nlen (by rfl) (pa_N (pv 0) zab)) zab))) (nG 2 zaV.nd)
   (zac (PS.nox (zjL (i:=1) zaV.nd (by rfl) (Or.inl rfl) (pe_bm An CG CH zcw (pe_ix zao (pv 0) (pv 2) (λ_ _=>rfl)) (pa_C zai zab)) zjX))
   (zag (ps_if (PT.nox (pw_or (zcr (zdb (pC g_is_sign_row hr (zaf (pe_ix zao (pv 0) (pv 2) (λ_ _=>rfl)) (zaf (pe_ix zao (pv 0) zad (λ_ _=>rfl)) zab))))) (pw_or (zar op_gt (pv 2) (zbD (v:=.int 60) (by rfl) hMS ⟨_,rfl⟩) (zaw _)) (zcq (zar op_gt (pv 1) (zbD (v:=.int 120) (by rfl) hMC ⟨_,rfl⟩) (zaw _))))).pt) (zag (zcs g_NoText hr (pa_N (pv 2) (pa_C zad zab)))) zaH)))))),?_⟩
  have e35:Aa "#" = ⟨#[35]⟩:=by decide +kernel
  have hwl:(rows.map V.str).length=rows.length:=Ae _;refine⟨_,rfl,a,_,rfl,.inl ha,?_⟩;rw[hwl];refine⟨1,_,rfl,⟨by decide,by decide,by lia,by lia⟩,?_⟩;rw[show ((rows.length:Int)-1).toNat=rows.length-1 by lia]
  refine zaJ (lo:=1) (n:=rows.length-1) (λi σ H3=>∃o2,σ=[some (.ref a),some (.int (cum rows i:Nat)),o2]/\Same H H3/\∀j,1<=j->j<i+1->badR rows j=false)
   ⟨_,rfl,Same.refl _,λj h1 h2=>absurd h2 (by lia)⟩ ?_ ?_
  .rintro i σ H3 hi ⟨o2,rfl,s3,hj⟩;simp only[zaA,AF,AG];have hi1:i+1<rows.length:=by lia
   rw[show (1:Int)+(i:Int)=((i+1:Nat):Int) by lia];have g1:=zaT hi1;have g0:=zaT (rows:=rows) (i:=1) (by lia);refine⟨_,rfl,_,rfl,_,rfl,a,_,_,_,rfl,rfl,s3.seq ha,zas g1.1,rfl,_,_,rfl,rfl,_,_,rfl,rfl,?_⟩;simp only[zaA,AF,AG];rw[e35,zcu,show (((cum rows i:Nat):Int)+(((cl (rowAt rows (i+1))).count 35:Nat):Int))=((cum rows (i+1):Nat):Int) from rfl];refine⟨_,rfl,_,rfl,a,_,_,_,rfl,rfl,s3.seq ha,zas g1.1,_,rfl,a,_,_,_,rfl,rfl,s3.seq ha,zas (j:=1) g0.1,?_⟩;refine⟨_,_,rfl,hW _ g1.2,hW _ g0.2,λH4 s4=>⟨_,rfl,?_⟩⟩;have bad:badR rows (i+1)=true->∀dx,H4 dx=none->E (.ref cNT) (some dx) (upd H4 dx (ntO (i+1) 0 dx)):=λz dx hdx=>kb (i+1) dx H4 (by lia) hi1 z (λj h1 h2=>hj j h1 h2) (s3.trans s4) hdx
   have raise:badR rows (i+1)=true->∀D:Ends,zgw cNT ["row","word"] (tCons (tVar 2) (tCons (tC (V.int 0)) tNil)) E D [some (.ref a),some (.int ((cum rows (i+1):Nat):Int)),some (.int ((i+1:Nat):Int))] H4:=λz D=>⟨_,rfl,rfl,λdx hdx=>bad z dx hdx⟩
   by_cases h1:zcn (rowAt rows (i+1)) (rowAt rows 1)=true
   rotate_left
   .rw[AN.mpr h1];refine iteT (iteT ?_);exact raise (by unfold badR;rw[AN.mpr h1];rfl) _
   rw[h1];refine iteF ?_
   refine⟨_,rfl,_,_,rfl,rfl,_,rfl,?_⟩
   by_cases h2:60<i+1
   .refine iteY (decide_eq_true (by lia)) (iteT ?_);exact raise (by unfold badR;rw[h1,decide_eq_true h2];rfl) _
   refine iteN (decide_eq_false (by lia)) ?_
   refine⟨_,rfl,_,_,rfl,rfl,_,rfl,?_⟩
   by_cases h3:120<cum rows (i+1)
   .refine iteY (decide_eq_true (by lia)) ?_
    exact raise (by unfold badR;rw[h1,decide_eq_true h3,decide_eq_false h2];rfl) _
   refine iteN (decide_eq_false (by lia)) ?_
   refine⟨_,rfl,s3.trans s4,λj j1 j2=>?_⟩
   by_cases hjj:j=i+1
   .subst hjj;unfold badR;rw[h1,decide_eq_false h2,decide_eq_false h3];rfl
   .exact hj j j1 (by lia)
  .rintro σ H3 ⟨o2,rfl,s3,hj⟩;exact kg (λj h1 h2=>hj j h1 (by lia)) H3 s3
end
end RR
set_option maxRecDepth 700000
namespace RR
open PySem L2 RP
theorem zfS(sep:Str)(ys:List Str):Bt sep ys=Str.join sep ys:=StrLaws.glued_eq_join sep ys
theorem zfX (ys:List Str):cl (Bt (Aa "") ys)=(ys.map cl).flatten:=by
 rw[zfS]
 induction ys with
 |nil=>decide +kernel
 |cons x r ih =>
  cases r with
  |nil =>
   show cl x=cl x++[];rw[B3]
  |cons y r =>
   show cl (x++Aa "" ++ Str.join (Aa "") (y::r))=cl x++((y::r).map cl).flatten;rw[ziE,ziE,ih,show cl (Aa "")=[] by decide +kernel,B3]
noncomputable def zbv(rows:List Str):Bool:=!rows.isEmpty && (decide (35∈cl (rowAt rows 0)) && (decide (35∈cl (rowAt rows (rows.length-1))) && (rows.any (λr=>decide (35∈(cl r).take 1)) && rows.any (λr=>decide (35∈(cl r).drop (r.length-1))))))
section
variable {P:Am}{w:AB}{K:W.Frag}{mg:Str->Option Value}{base:Heap}
theorem zeY{te:TE}{f:Str -> Str}{σ : St}{H:Hp}{Q:VK}{a:Addr}{rows:List Str}(h0 : σ[0]? = some (some (.ref a)))(ha:SqL K H a (rows.map V.str))(hn:rows.length <= 1000000)(hf:∀r ∈ rows, ∀(H1:Hp) (Q1:VK), Q1 (.str (f r)) H1 -> te [some (.str r)] H1 Q1)
  (k:∀q H',Same H H'->H' q=some (.lst ((rows.map f).map V.str))->Q (.ref q) H'):zfz (iList K (tVar 0)) [none] (gName 0) (λx H Q=>Q true H) te σ H Q:=by
 refine⟨_,h0,a,rfl,⟨_,ha⟩,λq hq=>?_⟩
 refine zb5 (K:=K) (a:=a) (xs:=rows.map V.str) (λj σ H9=>∃o,σ=[o]/\Same H H9/\H9 q=some (.lst (((rows.take j).map f).map V.str)))
  ⟨_,rfl,Same.up hq,zaa⟩ (λj σ H9 _ ⟨_,_,s9,_⟩=>s9.seq ha) ?_ ?_
 .rintro j u σ H9 hj ⟨o,rfl,s9,e9⟩;rw[A8]at hj;obtain⟨r,hr,rfl⟩:=BN.mp hj;have hjl:=(Aj.mp hr).1;refine gN ?_
  refine hf r (AQ hr) _ _ ?_
  refine⟨_,e9,A6 (m:=1000000) (by simp only[Ae,AJ];lia) (by decide),_,rfl,zax hq s9,?_⟩;rw[zaa,zbe hr,Ak,Ak];rfl
 .rintro σ H9 ⟨o,rfl,s9,e9⟩;rw[AL (by rw[Ae];exact Ai _)]at e9;exact k q H9 s9 e9
theorem zfT{c:Nat}{j:Str}:(!(Br j ⟨#[c]⟩ 0 j.length 1).isEmpty)=decide (c∈cl j):=by rw[StrLaws.found_one]
noncomputable def zgx(K:W.Frag):Sp:=λvs H Q _=>∃(a:Addr) (rows:List Str),vs=[.ref a]/\SqL K H a (rows.map V.str)/\(∀y∈rows,y.length<=700000)/\rows.length<=700002/\∀H',Same H H'->Q (.bl (zbv rows)) H'
theorem zfm (T:Txt P w K mg) (d:Df K mg "is_tight" zbo ["rows"]):FnOk P w K mg base CX0 1 d.f d.fd ["rows"] (zgx K):=by
 refine d.F.ok zce (λvs H Q E h=>?_) (λcdv A outer s H vs Q E hr h=>?_)
 .obtain⟨a,rows,rfl,_⟩:=h;rfl
 .obtain⟨a,rows,rfl,ha,hW,hn,k⟩:=h;have nb0:(["row"]:List Str).Nodup:=by decide +kernel
  have nb1:(["row"]:List Str).Nodup:=by decide +kernel
  have nb2:(["signs"]:List Str).Nodup:=by decide +kernel
  refine⟨_,(zac (ps_if (zcr (zfI (pv 0) (λ_=>rfl)))
   (zag (zay pe_bl))
   zaH)
   (zac (sE 1 zce.nd (pe_bm An AT AU zbl zai (zaf (zaO (osc:=zae zbo) (N:=zb7) (N':=["row"]) (sel:=[none]) bO (zbM (pv 0)) (λ_ _ _ _ _=>(nG 0 nb0)) (λ_ _ _ _ _=>za3) (λ_ _ _ _ _=>(zau zbR (pv 0) zaE (zaD zad)))) zab)))
   (zac (sE 2 zce.nd (pe_bm An AT AU zbl zai (zaf (zaO (osc:=zae zbo) (N:=zb7) (N':=["row"]) (sel:=[none]) bO (zbM (pv 0)) (λ_ _ _ _ _=>(nG 0 nb1)) (λ_ _ _ _ _=>za3) (λ_ _ _ _ _=>(zau zbR (pv 0) (zaD (pe_un zcl zad)) zaE))) zab)))
   (zag (zay (zah (zcz rfl) (by rfl) T.nall (by rfl) (zaf (zaO (osc:=zae zbo) (N:=zb7) (N':=["signs"]) (sel:=[none]) bO (zjN (za4 (zaf (pe_ix zao (pv 0) zad (λ_ _=>rfl)) (zaf (pe_ix zao (pv 0) (pe_un zcl zad) (λ_ _=>rfl)) (pa_N (pv 1) (pa_N (pv 2) zab)))))) (λ_ _ _ _ _=>(nG 0 nb2)) (λ_ _ _ _ _=>za3) (λ_ _ _ _ _=>(za5 zct zai (pv 0) rfl))) zab))))))),?_⟩
  have e35:Aa "#" = ⟨#[35]⟩:=by decide +kernel
  have hwl:(rows.map V.str).length=rows.length:=Ae _;have kk:=k;refine⟨_,rfl,_,.inl ⟨_,ha,rfl⟩,?_⟩
  by_cases h0:rows=[]
  .subst h0;exact iteT (k H (Same.refl _))
  have hpos:0<rows.length:=B6.mpr h0
  refine iteN (by cases rows with
   |nil=>exact absurd rfl h0
   |cons x r=>rfl) ?_
  have len1:∀f:Str->Str,(∀r,(f r).length<=1)->((rows.map f).map Str.length).sum+(rows.map f).length*(Aa "").length<=16777216:=λf hf=>by
   rw[show (Aa "").length=0 by decide +kernel,Nat.mul_zero,Nat.add_zero]
   have:∀ys:List Str,((ys.map f).map Str.length).sum<=ys.length:=λys=>by
    induction ys with
    |nil=>exact Ai _
    |cons x r ih =>
     rw[AZ,AZ,List.sum_cons,AD];have:=hf x;lia
   have:=this rows;lia
  have f1:∀r:Str,(Bd r none (some 1)).length<=1:=λr=>by rw[<- zap,zc6,AJ];lia
  have f2:∀r:Str,(Bd r (some (-1)) none).length<=1:=λr=>by rw[<- zap,zdG,AC,zap];lia
  refine⟨rfl,?_⟩;refine zeY (f:=λr=>Bd r none (some 1)) rfl ha (by lia) (λr hr H1 Q1 q=>?_) λq1 H1 s1 e1=>?_
  .exact⟨_,rfl,1,rfl,r,rfl,zal (by have:=hW r hr;lia),q⟩
  refine⟨_,q1,_,rfl,rfl,e1,len1 _ f1,?_⟩;refine⟨rfl,?_⟩;refine zeY (f:=λr=>Bd r (some (-1)) none) rfl (s1.seq ha) (by lia) (λr hr H1 Q1 q=>?_) λq2 H2 s2 e2=>?_
  .exact⟨_,rfl,1,rfl,_,rfl,r,rfl,zal (by have:=hW r hr;lia),q⟩
  refine⟨_,q2,_,rfl,rfl,e2,len1 _ f2,?_⟩;generalize hy1:Bt (Aa "") (List.map (λr=>Bd r none (some 1)) rows)=y1;generalize hy2:Bt (Aa "") (List.map (λr=>Bd r (some (-1)) none) rows)=y2;have g0:=zaT hpos;have g1:=zaT (rows:=rows) (i:=rows.length-1) (by lia);have sa2:=s2.seq (s1.seq ha);refine⟨_,rfl,a,_,_,_,rfl,rfl,sa2,zas (j:=0) g0.1,?_⟩;refine⟨_,rfl,1,rfl,a,_,_,_,rfl,rfl,sa2,((RR.atI_last (by rw[hwl];exact hpos)).trans (by rw[hwl];exact g1.1)),_,rfl,_,rfl,?_⟩
  have in1:∀f:Str->Str,decide (35∈cl (Bt (Aa "") (rows.map f)))=rows.any (λr=>decide (35∈cl (f r))):=λf=>by
   rw[zfX,Cj,decide_eq_true_iff,List.mem_flatten,C5];constructor
   .rintro⟨l,hl,hm⟩;obtain⟨y,hy,rfl⟩:=AO.mp hl;obtain⟨r,hr,rfl⟩:=AO.mp hy;exact⟨r,hr,decide_eq_true hm⟩
   .rintro⟨r,hr,hm⟩;exact⟨_,AO.mpr ⟨_,AO.mpr ⟨r,hr,rfl⟩,rfl⟩,of_decide_eq_true hm⟩
  have fin:zbv rows=(([rowAt rows 0,rowAt rows (rows.length-1),y1,y2]:List Str).map λy=>decide (35∈cl y)).all id:=by
   have a1:=in1 λr=>Bd r none (some 1)
   have a2:=in1 λr=>Bd r (some (-1)) none
   rw[hy1]at a1;rw[hy2]at a2;simp only[zc6]at a1;simp only[zdG]at a2;unfold zbv;rw[<- a1,<- a2]
   cases rows with
   |nil=>exact absurd rfl h0
   |cons x r=>simp
  generalize hL:([rowAt rows 0,rowAt rows (rows.length-1),y1,y2]:List Str)=L at fin;have hLl:L.length=4:=by rw[<- hL];rfl
  refine⟨(by show 4<=sizeLine;decide),λtp htp=>?_⟩;have hLV:([V.str (rowAt rows 0),V.str (rowAt rows (rows.length-1)),V.str y1,V.str y2]:List V)=L.map V.str:=by rw[<- hL];rfl
  rw[hLV];have s3:=Same.up (o:=.tup (L.map V.str)) htp;have e3:upd H2 tp (.tup (L.map V.str)) tp=some (.tup (L.map V.str)):=zaa;generalize upd H2 tp (.tup (L.map V.str))=H3 at s3 e3;refine⟨tp,rfl,⟨_,SqT.of e3⟩,λq hq=>?_⟩
  refine zjh (K:=K) (a:=tp) (xs:=L.map V.str) (λj σ H9=>∃o,σ=[o]/\Same H3 H9/\H9 q=some (.lst (((L.take j).map λy=>decide (35∈cl y)).map V.bl)))
   ⟨_,rfl,Same.up hq,zaa⟩ (λj σ H9 _ ⟨_,_,s9,_⟩=>SqT.of (s9 _ _ e3)) ?_ ?_
  .rintro j u σ H9 hj ⟨o,rfl,s9,e9⟩;rw[A8]at hj;obtain⟨r,hr,rfl⟩:=BN.mp hj;have hjl:=(Aj.mp hr).1;refine gN ?_
   refine⟨_,rfl,_,_,rfl,rfl,?_⟩;rw[e35,zfT];refine⟨_,e9,A6 (m:=4) (by simp only[Ae,AJ];lia) (by decide),_,rfl,zax hq s9,?_⟩;rw[zaa,zbe hr,Ak,Ak];rfl
  .rintro σ H9 ⟨o,rfl,s9,e9⟩;rw[AL (by rw[Ae];exact Ai _)]at e9;refine⟨q,_,rfl,SqL.of e9,?_⟩;rw[<- fin];exact kk H9 (s1.trans (s2.trans (s3.trans s9)))
end
end RR
set_option maxRecDepth 700000
namespace RR
open PySem L2 RP
noncomputable def nlT:Str:=Aa "\n"
noncomputable def rowC(l y:Int)(r:List Nat):Nat->List Cell
 | 0=>[]
 |n+1=>rowC l y r n++if r.getD n 0=35 then [(l+n,y)] else []
noncomputable def zaG(l lo:Int)(rows:List Str):Nat->List Cell
 | 0=>[]
 |n+1=>zaG l lo rows n++rowC l (lo+n) (cl (rowAt rows (rows.length-1-n))) (rowAt rows (rows.length-1-n)).length
theorem zb2(l y:Int)(r:List Nat):∀n,(rowC l y r n).length<=n
 | 0=>Ai _
 |n+1=>by
  have:=zb2 l y r n;unfold rowC;rw[At];split
  .show _+1<=_;lia
  .show _+0<=_;lia
theorem zcH{l lo:Int}{rows:List Str}{m:Nat}(h:∀r∈rows.drop 1,r.length<=m):∀n,n<rows.length->(zaG l lo rows n).length<=m*n
 | 0,_=>by show 0<=_;lia
 |n+1,hn=>by
  have:=zcH (l:=l) (lo:=lo) h n (by lia);unfold zaG;rw[At,Nat.mul_succ];have h1:=zb2 l (lo+n) (cl (rowAt rows (rows.length-1-n))) (rowAt rows (rows.length-1-n)).length
  have h2:(rowAt rows (rows.length-1-n)).length<=m:=by
   refine h _ ?_
   have e:rows[rows.length-1-n]?=some (rowAt rows (rows.length-1-n)):=by unfold rowAt;rw[Ah,Ad (by lia)];rfl
   refine AQ (i:=rows.length-1-n-1) ?_
   rw[A9,show 1+(rows.length-1-n-1)=rows.length-1-n by lia];exact e
  lia
theorem zbI(x y:Str):1<=(Af x y).length:=(PyProof.Rows.fact_split x y).1
inductive BadT (x:Str):Nat->Nat->Prop
 |place {n}:badW (Af (rowAt (Af x nlT) 0) spT)=some n->BadT x 0 n
 |row {i}:badW (Af (rowAt (Af x nlT) 0) spT)=none->1<=i->i<(Af x nlT).length->badR (Af x nlT) i=true->(∀j,1<=j->j<i->badR (Af x nlT) j=false)->BadT x i 0
 |tight:badW (Af (rowAt (Af x nlT) 0) spT)=none->(∀j,1<=j->j<(Af x nlT).length->badR (Af x nlT) j=false)->zbv ((Af x nlT).drop 1)=false->BadT x (Af x nlT).length 0
structure GoodT (x:Str) (l lo:Int):Prop where
 two:(Af (rowAt (Af x nlT) 0) spT).length=2
 n0:numW (Af (rowAt (Af x nlT) 0) spT) 0=some l
 n1:numW (Af (rowAt (Af x nlT) 0) spT) 1=some lo
 rows:∀j,1<=j->j<(Af x nlT).length->badR (Af x nlT) j=false
 tight:zbv ((Af x nlT).drop 1)=true
noncomputable def za1(x:Str)(l lo:Int):List Cell:=zaG l lo (Af x nlT) ((Af x nlT).length-1)
theorem zdq{ws:List Str}{l lo:Int}(h:ws.length=2)(h0:numW ws 0=some l)(h1:numW ws 1=some lo):badW ws=none:=by unfold badW;rw[h0,h1,if_neg (λz=>nomatch z),if_neg (λz=>nomatch z),if_neg (by lia)]
theorem zfG{rows:List Str}(h:∀j,1<=j->j<rows.length->badR rows j=false):rows.length<=61/\∀r∈rows.drop 1,r.length<=60:=by
 have all:∀j,1<=j->j<rows.length->(rowAt rows j).length<=60/\j<=60:=λj h1 h2=>by have:=h j h1 h2;unfold badR zcn at this;simp only[C0,decide_eq_false_iff_not,Dm,AX,decide_eq_true_iff]at this;lia
 refine⟨?_,λr hr=>?_⟩
 .by_cases h1:2<=rows.length
  .have:=all (rows.length-1) (by lia) (by lia);lia
  .lia
 .obtain⟨i,hi⟩:=CP.mp hr;rw[A9]at hi;have hil:=(Aj.mp hi).1;have:=(all (1+i) (by lia) hil).1;unfold rowAt at this;rw[Ah,hi]at this;exact this
theorem zbu(xs:List V)(j:Nat):cutV xs (some (j:Int)) none=xs.drop j:=by
 unfold cutV;rw[HT.sIx_nat,HT.sIx_none];rcases B8 xs.length j with h |h
 .rw[Nat.min_eq_right (by lia),show xs.drop j=[] from Bf (by lia),Nat.sub_self,List.take_zero]
 .rw[Nat.min_eq_left h,AL (by rw[AC];exact Ai _)]
section
variable {P:Am}{w:AB}{K:W.Frag}{mg:Str->Option Value}{base:Heap}
noncomputable def zgA(K:W.Frag)(cNT:Addr):Sp:=λvs H Q E=>∃x:Str,vs=[.str x]/\x.length<=700000 /\
 (x=Aa "" -> ∀p H',H p=none->Same H H'->H' p=some (.lst [])->Q (.ref p) H') /\
 (x≠Aa "" -> (∀r c d H',BadT x r c->Same H H'->H' d=none->E (.ref cNT) (some d) (upd H' d (ntO r c d))) /\
  (∀l lo p H' ws,GoodT x l lo->H p=none->Same H H'->H' p=some (.lst ws)->VR ws (za1 x l lo) cR H'->Q (.ref p) H'))
theorem zd9 (T:Txt P w K mg){cNT:Addr}(g_NoText:ExA P w K mg base "NoText" cNT ["row", "word"]) (g_read_place:FnX P w K mg base 4 "read_place" ["text"] (zgB cNT)) (g_ask_sign_rows:FnX P w K mg base 3 "ask_sign_rows" ["rows"] (zeA K cNT))
  (g_is_tight:Fn P w K mg base 1 "is_tight" ["rows"] (zgx K)) (d:Df K mg "read_drawn" zbw ["text"]):FnOk P w K mg base (CX1 P w) 5 d.f d.fd ["text"] (zgA K cNT):=by
 refine d.F.okX zaK (λvs H Q E h=>?_) (λcdv A outer s H vs Q E hr h=>?_)
 .obtain⟨x,rfl,_⟩:=h;rfl
 .obtain⟨x,rfl,hl,k0,k1⟩:=h;have nb0:(["right","sign","left","low","up"]:List Str).Nodup:=by decide +kernel
  refine⟨_,(zac (PS.nox (ps_if (zar op_eq (pv 0) zai (zaw _))
   (zag (zay (za0 zab)))
   zaH))
   (zac (PS.nox (sE 1 zaK.nd (pe_bm An Bg Bh zbz (pv 0) (pa_C zai zab))))
   (zac (zeI (pCX g_read_place hr (pass1 (λ_ _ _ h=>h)) (zaf (pe_ix zao (pv 1) zad (λ_ _=>rfl)) zab)) (zfK (by rfl) (zaq (zba (i:=2) zaK.nd (by rfl) (CD rfl)) (zaq (zba (i:=3) zaK.nd (by rfl) (CD rfl)) zbN))))
   (zac (za9 (pCX g_ask_sign_rows hr (pass1 (λ_ _ _ h=>h)) (pa_N (pv 1) zab)))
   (zac (ps_if (PT.nox (zcr (zdb (pC g_is_tight hr (zaf (zau za7 (pv 1) (zaD zad) zaE) zab))))) (zag (zcs g_NoText hr (zaf (zah zaj (by rfl) T.nlen (by rfl) (pa_N (pv 1) zab)) (pa_C zad zab)))) zaH)
   (zac (PS.nox (sE 4 zaK.nd (za0 zab)))
   (zac (PS.nox (zbG Bx rfl (zi0 (by rfl) T.nenumerate (zaf (zhS (pv 1) zad (pe_un zcl zad)) zab)) (zfK (by rfl) (zaq (zba (i:=5) zaK.nd (by rfl) (CD rfl)) (zaq (nG 6 zaK.nd) zbN)))
   (zag (za9 (pe_bm AR Di Dj zdf (pv 4) (zaf (zaO (osc:=zae zbw) (N:=zcW) (N':=["right","sign","left","low","up"]) (sel:=[none,none,some 2,some 3,some 5]) bO (zhO (by rfl) T.nenumerate (pa_N (pv 6) zab)) (λ_ _ _ _ _=>(zfj (K:=K) (n:=2) (by rfl) (zaq (nG 0 nb0) (zaq (nG 1 nb0) zbN)))) (λ_ _ _ _ _=>zfh (zar op_eq (pv 1) zai (zaw _))) (λ_ _ _ _ _=>(za4 (pa_B (pe_op zaI (pv 2) (pv 0)) (pa_B (pe_op zaI (pv 3) (pv 4)) zab))))) zab))))))
   (zag (PS.nox (zay (pv 4))))))))))),?_⟩
  refine⟨_,rfl,rfl,_,rfl,?_⟩
  by_cases hx:x=Aa ""
  .rw[decide_eq_true (congrArg V.str hx)];refine iteT ⟨A1 _,λp hp=>?_⟩;exact k0 hx p _ hp (Same.up hp) zaa
  obtain⟨kb,kg⟩:=k1 hx;rw[decide_eq_false (λz=>hx (by injection z))];refine iteF ?_
  have hW:∀y∈Af x nlT,y.length<=700000:=λy hy=>by have:=join_mem_le nlT _ y hy;rw[BH]at this;lia
  have hWl:(Af x nlT).length<=700002:=by have:=Ch x nlT;lia
  have hW1:=zbI x nlT;refine⟨_,rfl,rfl,x,_,rfl,rfl,rfl,zal (by lia),λpw hpw=>?_⟩;have s1:=Same.up (o:=.lst ((Af x nlT).map V.str)) hpw;have e1:upd H pw (.lst ((Af x nlT).map V.str)) pw=some (.lst ((Af x nlT).map V.str)):=zaa;show tSeq _ _ _ _ (upd H pw (.lst ((Af x nlT).map V.str)));generalize upd H pw (.lst ((Af x nlT).map V.str))=H1 at s1 e1;have hrows:∃rows,rows=Af x nlT:=⟨_,rfl⟩;obtain⟨rows,hrows⟩:=hrows;rw[<- hrows]at e1 hW hWl hW1;have hwl:(rows.map V.str).length=rows.length:=Ae _;have g0:=zaT (rows:=rows) (i:=0) (by lia);refine⟨_,rfl,pw,_,_,_,rfl,rfl,SqL.of e1,zas (j:=0) g0.1,?_⟩;refine⟨_,rfl,hW _ g0.2,λn dx H2 hb s2 hdx=>kb 0 n dx H2 (.place (by rw[<- hrows];exact hb)) (s1.trans s2) hdx,λt H2 n m h2 hn hm s2 ht et=>?_⟩;refine⟨t,_,rfl,SqT.of et,rfl,_,_,rfl,_,_,rfl,rfl,?_⟩;have hbn:badW (Af (rowAt (Af x nlT) 0) spT)=none:=by rw[<- hrows];exact zdq h2 hn hm
  have s12:=s1.trans s2;refine⟨_,rfl,pw,rows,rfl,SqL.of (s2 _ _ e1),hW,hW1,hWl,λi dx H3 h1 h2 hb hj s3 hdx=>?_,λhj H3 s3=>?_⟩
  .exact kb i 0 dx H3 (.row hbn h1 (by rw[<- hrows];exact h2) (by rw[<- hrows];exact hb) (by rw[<- hrows];exact hj)) (s12.trans s3) hdx
  have s23:=s2.trans s3;refine⟨_,rfl,1,rfl,pw,_,rfl,SqL.of (s23 _ _ e1),λp4 hp4=>?_⟩;rw[show cutV (rows.map V.str) (some 1) none=(rows.drop 1).map V.str by rw[show (1:Int)=((1:Nat):Int) from rfl,zbu,Cr]];have s4:=Same.up (o:=.lst ((rows.drop 1).map V.str)) hp4;have e4:upd H3 p4 (.lst ((rows.drop 1).map V.str)) p4=some (.lst ((rows.drop 1).map V.str)):=zaa;generalize upd H3 p4 (.lst ((rows.drop 1).map V.str))=H4 at s4 e4;refine⟨p4,rows.drop 1,rfl,SqL.of e4,λy hy=>hW y (List.mem_of_mem_drop hy),by rw[AC];lia,λH5 s5=>⟨_,rfl,?_⟩⟩;have s45:=s4.trans s5;have s05:=s12.trans (s3.trans s45);have e5:=(s23.trans s45) _ _ e1
  by_cases ht2:zbv (rows.drop 1)=true
  rotate_left
  .have ht2:=AN.mpr ht2;rw[ht2];refine iteT ?_
   refine⟨_,rfl,pw,_,rfl,.inl (SqL.of e5),rfl,λdx hdx=>?_⟩;rw[hwl];have:=kb rows.length 0 dx H5 (by rw[hrows];exact .tight hbn (by rw[<- hrows];exact hj) (by rw[<- hrows];exact ht2)) s05 hdx;exact this
  rw[ht2];refine iteF ?_
  have hgood:GoodT x n m:=⟨by rw[<- hrows];exact h2,by rw[<- hrows];exact hn,by rw[<- hrows];exact hm,by rw[<- hrows];exact hj,by rw[<- hrows];exact ht2⟩;have hfew:=zfG hj;have hlast:za1 x n m=zaG n m rows (rows.length-1):=by unfold za1;rw[<- hrows]
  refine⟨A1 _,λpc hpc=>?_⟩;have s6:=Same.up (o:=.lst []) hpc;have e6:upd H5 pc (.lst []) pc=some (.lst []):=zaa;generalize upd H5 pc (.lst [])=H6 at s6 e6;refine⟨_,rfl,1,rfl,rfl,rfl,pw,_,rfl,SqL.of (s6 _ _ e5),λpb hpb=>?_⟩;rw[show ((rows.map V.str).drop 1).reverse=((rows.drop 1).reverse).map V.str by rw[List.map_reverse,Cr]];have s7:=Same.up (o:=.lst (((rows.drop 1).reverse).map V.str)) hpb;have e7:upd H6 pb (.lst (((rows.drop 1).reverse).map V.str)) pb=some (.lst (((rows.drop 1).reverse).map V.str)):=zaa;have hbc:pb≠pc:=λz=>by rw[z,e6]at hpb;cases hpb
  generalize upd H6 pb (.lst (((rows.drop 1).reverse).map V.str))=H7 at s7 e7;refine⟨pb,rfl,⟨_,SqL.of e7⟩,?_⟩;have hrl:(((rows.drop 1).reverse).map V.str).length=rows.length-1:=by rw[Ae,List.length_reverse,AC]
  have free7:∀H8:Hp,(∀b o,b≠pc->H7 b=some o->H8 b=some o)->Same H5 H8:=λH8 q b o hb=>q b o (λz=>by rw[z,hpc]at hb;cases hb) (s7 _ _ (s6 _ _ hb))
  refine zh2 (K:=K) (a:=pb) (xs:=((rows.drop 1).reverse).map V.str) (λi σ H8=>∃o5 o6,σ=[some (.str x),some (.ref pw),some (.int n),some (.int m),some (.ref pc),o5,o6]/\(∀b o,b≠pc->H7 b=some o->H8 b=some o)/\∃vs,H8 pc=some (.lst vs)/\VR vs (zaG n m rows i) cR H8)
   ⟨_,_,rfl,λb o _ h=>h,[],s7 _ _ e6,VR.nil⟩ (λi σ H8 _ ⟨_,_,_,q8,_⟩=>SqL.of (q8 _ _ hbc e7)) ?_ ?_
  .rintro i u σ H8 tp hu ⟨o5,o6,rfl,q8,vs,e8,hv8⟩ htp;have hil:=(Aj.mp hu).1;rw[hrl]at hil
   obtain⟨y,hy,rfl⟩:∃y,y=rowAt rows (rows.length-1-i)/\u=V.str y:=by refine⟨_,rfl,?_⟩;rw[A8,List.getElem?_reverse (by rw[AC];exact hil),AC,A9,show 1+(rows.length-1-1-i)=rows.length-1-i by lia,Ad (by lia)]at hu;unfold rowAt;rw[Ah,Ad (by lia)];exact (Bu hu).symm
   have hyl:y.length<=60:=by
    refine hfew.2 y ?_
    have e:=(zaT (rows:=rows) (i:=rows.length-1-i) (by lia)).1;rw[<- hy,A8]at e;obtain⟨z,hz,hzy⟩:=BN.mp e;injection hzy with hzy;subst hzy;refine AQ (i:=rows.length-1-i-1) ?_
    rw[A9,show 1+(rows.length-1-i-1)=rows.length-1-i by lia];exact hz
   have hcl:=zcH (l:=n) (lo:=m) hfew.2 i (by lia)
   have hvl:vs.length<=3600:=by rw[hv8.1];have:60*i<=60*60:=Nat.mul_le_mul_left 60 (by lia);lia
   have s9:=Same.up (o:=.tup [V.int (i:Int),V.str y]) htp;have e9:upd H8 tp (.tup [V.int (i:Int),V.str y]) tp=some (.tup [V.int (i:Int),V.str y]):=zaa;generalize upd H8 tp (.tup [V.int (i:Int),V.str y])=H9 at s9 e9;have e89:=s9 _ _ e8;have hv9:VR vs (zaG n m rows i) cR H9:=hv8.mono λx v h=>h.kt (KT.of s9)
   refine⟨tp,_,rfl,SqT.of e9,rfl,_,_,rfl,_,_,rfl,rfl,?_⟩;refine⟨_,rfl,.inl ⟨rfl,_,SqL.of e89⟩,_,rfl,y,rfl,λg hg=>?_⟩
   refine zhf (y:=y) (λj σ H10=>∃o0 o1,σ=[o0,o1,some (.int n),some (.int m),some (.int i)]/\Same H9 H10/\∃zs,H10 g=some (.lst zs)/\VR zs (rowC n (m+i) (cl y) j) cR H10)
    ⟨_,_,rfl,Same.up hg,[],zaa,VR.nil⟩ ?_ ?_
   .rintro j c σ H10 tq hc ⟨o0,o1,rfl,s10,zs,e10,hz10⟩ htq;have hc':(cl y)[j]?=some c:=by rw[<- hc];simp
    have hjl:=(Aj.mp hc').1;rw[zap]at hjl
    have hzl:zs.length<=60:=by rw[hz10.1];have:=zb2 n (m+i) (cl y) j;lia
    have s11:=Same.up (o:=.tup [V.int (j:Int),V.str ⟨#[c]⟩]) htq;have e11:upd H10 tq (.tup [V.int (j:Int),V.str ⟨#[c]⟩]) tq=some (.tup [V.int (j:Int),V.str ⟨#[c]⟩]):=zaa;generalize upd H10 tq (.tup [V.int (j:Int),V.str ⟨#[c]⟩])=H11 at s11 e11;refine⟨tq,_,rfl,SqT.of e11,rfl,_,_,rfl,_,_,rfl,rfl,?_⟩;refine⟨_,rfl,rfl,_,rfl,?_⟩;have e35:Aa "#" = ⟨#[35]⟩:=by decide +kernel
    have hdec:decide (V.str ⟨#[c]⟩=V.str (Aa "#"))=decide (c=35):=by rw[e35];refine decide_eq_decide.mpr ⟨λz=>?_,λz=>by rw[z]⟩;injection z with z;injection z with z;injection z with z;injection z
    rw[hdec]
    have hrow:rowC n (m+i) (cl y) (j+1)=rowC n (m+i) (cl y) j++if c=35 then [(n+j,m+i)] else []:=by show _++_=_;rw[Ah,hc'];rfl
    have e12:=s11 _ _ e10;refine ite2 (λhy=>?_) (λhn=>?_)
    .have hy:=of_decide_eq_true hy;rw[if_pos hy]at hrow;refine⟨_,rfl,_,rfl,_,_,rfl,rfl,_,rfl,_,rfl,_,_,rfl,rfl,two,λt1 ht1=>?_⟩;have s12':=Same.up (o:=.tup [V.int (n+j),V.int (m+i)]) ht1;have r12:cR (n+(j:Int),m+(i:Int)) (.ref t1) (upd H11 t1 (.tup [V.int (n+j),V.int (m+i)])):=⟨t1,rfl,by rw[zaa];rfl⟩;generalize upd H11 t1 (.tup [V.int (n+j),V.int (m+i)])=H12 at s12' r12;have e13:=s12' _ _ e12;refine⟨zs,e13,zaF (by lia),_,_,rfl,zax hg (s10.trans (s11.trans s12')),_,zaa,?_⟩;rw[hrow];exact hz10.snoc (λx v h=>(h.kt (KT.of (s11.trans s12'))).kt (KT.lst e13)) (r12.kt (KT.lst e13))
    .have hn:c≠35:=λz=>hn (decide_eq_true z)
     rw[if_neg hn,B3]at hrow;exact⟨_,_,rfl,s10.trans s11,zs,e12,by rw[hrow];exact hz10.mono λx v h=>h.kt (KT.of s11)⟩
   .rintro σ H10 ⟨o0,o1,rfl,s10,zs,e10,hz10⟩;have hsz:y.cps.size=y.length:=rfl
    have hzl:zs.length<=60:=by rw[hz10.1];have:=zb2 n (m+i) (cl y) y.cps.size;lia
    have e90:=s10 _ _ e89;refine⟨pc,g,_,_,rfl,rfl,e90,e10,AK (m:=700000) (by lia) (by decide),?_⟩;have k10:KT H10 (upd H10 pc (.lst (vs++zs))):=KT.lst e90;refine⟨_,_,rfl,λb o hb hbo=>?_,_,zaa,?_⟩
    .rw[zam hb];exact s10 _ _ (s9 _ _ (q8 _ _ hb hbo))
    .show VR _ (zaG n m rows i++rowC n (m+i) (cl (rowAt rows (rows.length-1-i))) (rowAt rows (rows.length-1-i)).length) _ _;rw[<- hy];exact (hv9.mono λx v h=>(h.kt (KT.of s10)).kt k10).app (hz10.mono λx v h=>h.kt k10)
  .rintro σ H8 ⟨o5,o6,rfl,q8,vs,e8,hv8⟩;rw[hrl,<- hlast]at hv8;have s8:=free7 H8 q8;exact⟨_,rfl,kg n m pc H8 vs hgood (s05.free hpc) (s05.trans s8) e8 hv8⟩
end
end RR
set_option maxRecDepth 700000
namespace RR
open PySem L2 RP
section
variable {P:Am}{w:AB}{K:W.Frag}{mg:Str->Option Value}{base:Heap}
noncomputable def zih:Sp:=λvs H Q _=>∃x:Str,vs=[.str x]/\x.length<=700000/\∀H',Same H H'->Q (.bl (zcv (cl x))) H'
theorem zea (T:Txt P w K mg) (d:Df K mg "_law_number" zbn ["_law_word"]):FnOk P w K mg base CX0 1 d.f d.fd ["_law_word"] zih:=by
  refine d.F.ok zca (λvs H Q E h=>?_) (λcdv A outer s H vs Q E hr h=>?_)
  . obtain⟨x,rfl,_⟩:=h
    rfl
  . obtain⟨x,rfl,hl,k⟩:=h
    have nb0:(["_law_sign"]:List Str).Nodup:=by decide +kernel
    refine⟨_,(zac (sE 1 zca.nd (zau zbR (pv 0) (zaD (zbj ze5 (by rfl) T.nint (by rfl) (zaf (za5 op_eq (zau zbR (pv 0) zaE (zaD zad)) zai (zaw _)) zab))) zaE))
      (zac (ps_if (pw_or (zcr (zhL op_le op_le zad (zah zat (by rfl) T.nlen (by rfl) (pa_N (pv 1) zab)) zad)) (zcq (zcr (zdb (zah (zcz rfl) (by rfl) T.nall (by rfl) (zaf (zaO (osc:=zae zbn) (N:=zcB) (N':=["_law_sign"]) (sel:=[none]) bO (zgW (pv 1)) (λ_ _ _ _ _=>(nG 0 nb0)) (λ_ _ _ _ _=>za3) (λ_ _ _ _ _=>(za5 zct (pv 0) zai rfl))) zab)))))).pt
      (zag (zay pe_bl))
      zaH)
      (zag (zay (pe_or (za5 op_eq (pv 0) zai (zaw _)) (zdL (za5 op_ne (pe_ix zdR (pv 1) zad (λ_ _=>rfl)) zai (zaw _)))))))),?_⟩
    have hcl:=zap x
    have e45:Aa "-" = ⟨#[45]⟩:=by decide +kernel
    have e48:Aa "0" = ⟨#[48]⟩:=by decide +kernel
    have strEq:∀ (a:Str) (l:List Nat) (b:Str),cl b=l→decide (V.str a=V.str b)=decide (cl a=l):=λa l b hb =>
      decide_eq_decide.mpr ⟨λz=>by injection z with z;rw[z,hb],λz=>congrArg V.str (ze0 (z.trans hb.symm))⟩
    have tail : ∀ y : Str, cl y = figOf (cl x) → tSeq (tIfS (tOr (tNot (tTest (zie (rI0 λi j => V.bl (decide (i ≤ j))) (rI0 λi j => V.bl (decide (i ≤ j))) (tC (V.int 1)) (tCB (λxs H Q => ∃ z : Str, xs = [V.str z] ∧ z.length ≤ sizeLine ∧ Q (V.int (z.length : Nat)) H) (tCons (tVar 1) tNil)) (tC (V.int 30)))))
          (tNot (tB (tCB (λxs H_1 Q=>∃ (p:Addr) (bs:List Bool),xs=[V.ref p]∧SqL K H_1 p (bs.map V.bl)∧Q (V.bl (bs.all id)) H_1) (tCons (zfz (iStr (tVar 1)) [none] (gName 0) (λx H Q=>Q true H) (tOp (λx y H Q=>∃ i j,x=V.str i∧y=V.str j∧Q (V.bl !(Br j i 0 j.length 1).isEmpty) H) (tVar 0) (tC (V.str (Aa "0123456789"))))) tNil))))) (tRet (tC (V.bl false))) tNext)
        (tRet (tOrV (tOp rEq (tVar 0) (tC (V.str (Aa "0")))) (tOp rNe (tOp rIxS (tVar 1) (tC (V.int 0))) (tC (V.str (Aa "0"))))))
        { nx:=λx H'=>Q V.non H',rt:=Q } [some (.str x),some (.str y)] H:=λy hy=>by
      have hyl:y.length=(figOf (cl x)).length:=by rw[← zap,hy]
      have hyle:y.length≤700000:=by
        rw[hyl]
        unfold figOf
        split
        . rw[AC];lia
        . lia
      have kk:=k
      unfold zcv at kk
      have d1:decide ((1:Int)≤(y.length:Nat))=!(figOf (cl x)).isEmpty:=by
        rw[hyl]
        cases figOf (cl x) with
        | nil=>rfl
        | cons a r=>exact decide_eq_true (by rw[AD];lia)
      have d2:decide (((y.length:Nat):Int)≤30)=decide ((figOf (cl x)).length≤30):=by
        rw[hyl];exact decide_eq_decide.mpr (by lia)
      refine⟨_,rfl,y,rfl,zal (by lia),_,_,rfl,rfl,_,rfl,?_⟩
      rw[d1]
      by_cases he:(figOf (cl x)).isEmpty=true
      . rw[he] at kk ⊢
        exact iteF ⟨_,rfl,iteT (iteT (kk H (Same.refl _)))⟩
      have he:=AN.mpr he
      rw[he] at kk ⊢
      refine iteT ⟨_,_,rfl,rfl,_,rfl,?_⟩
      rw[d2]
      by_cases h30:(figOf (cl x)).length≤30
      rotate_left
      . rw[decide_eq_false h30] at kk ⊢
        refine iteT (iteT ?_)
        rw[Bool.false_and,CV,CV] at kk
        exact kk H (Same.refl _)
      rw[decide_eq_true h30] at kk ⊢
      refine iteF ?_
      refine⟨_,rfl,y,rfl,λq hq=>?_⟩
      refine zfq (λj σ H9=>∃ o,σ=[o]∧Same H H9∧H9 q=some (.lst ((((cl y).take j).map digB).map V.bl))) ⟨_,rfl,Same.up hq,zaa⟩ ?_ ?_
      . rintro j c σ H9 hc ⟨o,rfl,s9,e9⟩
        have hc':(cl y)[j]?=some c:=by rw[← hc];simp
        have hj:=(Aj.mp hc').1
        rw[zap] at hj
        refine gN ?_
        refine⟨_,rfl,_,_,rfl,rfl,?_⟩
        rw[StrLaws.found_one,zhk]
        refine⟨_,e9,A6 (m:=700000) (by simp only[Ae,AJ];lia) (by decide),_,rfl,zax hq s9,?_⟩
        rw[zaa,zbe hc',Ak,Ak];rfl
      . rintro σ H9 ⟨o,rfl,s9,e9⟩
        rw[AL (by rw[zap];exact Ai _)] at e9
        refine⟨q,_,rfl,SqL.of e9,_,rfl,?_⟩
        rw[show ((cl y).map digB).all id=(figOf (cl x)).all digB by rw[hy,List.all_map];rfl]
        have kk:=kk H9 s9
        by_cases hd:(figOf (cl x)).all digB=true
        rotate_left
        . rw[AN.mpr hd] at kk ⊢
          exact iteT kk
        rw[hd] at kk ⊢
        refine iteF ?_
        simp only[CN,Bool.not_false] at kk
        refine⟨_,rfl,rfl,_,rfl,?_⟩
        rw[strEq x [48] _ (by decide +kernel)]
        by_cases hx:cl x=[48]
        . rw[decide_eq_true hx] at kk ⊢
          exact iteT kk
        rw[decide_eq_false hx] at kk ⊢
        refine iteF ?_
        obtain⟨c,r,hcr⟩:∃ c r,cl y=c::r:=by
          rw[hy]
          cases q:figOf (cl x) with
          | nil=>rw[q] at he;cases he
          | cons c r=>exact⟨c,r,rfl⟩
        refine⟨_,rfl,y,_,c,rfl,rfl,zal (by lia),zas (j:=0) (by show (cl y)[0]?=_;rw[hcr];rfl),rfl,?_⟩
        have:(!decide (V.str ⟨#[c]⟩=V.str (Aa "0")))=decide ((figOf (cl x)).head?≠some 48):=by
          rw[strEq ⟨#[c]⟩ [48] _ (by decide +kernel),← hy,hcr,decide_not]
          congr 1
          exact decide_eq_decide.mpr ⟨λz=>by cases z;rfl,λz=>by cases z;rfl⟩
        rw[this]
        exact kk
    refine⟨_,rfl,_,rfl,1,rfl,x,rfl,zal (by lia),rfl,.inr ⟨_,rfl,_,rfl,x,rfl,zal (by lia),tail _ ?_⟩⟩
    rw[strEq _ [45] _ (by decide +kernel),zc6]
    unfold figOf
    by_cases hh:(cl x).head?=some 45
    . rw[if_pos hh, decide_eq_true (by cases q : cl x with
        | nil=>rw[q] at hh;cases hh
        | cons a r=>rw[q] at hh;cases hh;rfl)]
      exact zgH x
    . rw[if_neg hh, decide_eq_false (λz => hh (by cases q : cl x with
        | nil=>rw[q] at z;cases z
        | cons a r=>rw[q] at z;cases z;rfl))]
      have:=zdH (x:=x) (k:=0) (A1 _)
      rw[CY] at this
      exact this
end
end RR
set_option maxRecDepth 700000
namespace RR
open PySem L2 RP
theorem zg3{x:Str}{n:Int}(h:numIn x=some n):intText? x=some n/\x.length<=640:=by
 unfold numIn at h;split at h
 .rename_i hk
  injection h with h;unfold zcv at hk;simp only[AX,decide_eq_true_iff]at hk;rw[<- h];exact zeS (by simpa using hk.1) (zft.mp hk.2.1) hk.2.2.1
 .cases h
section
variable {P:Am}{w:AB}{K:W.Frag}{mg:Str->Option Value}{base:Heap}
noncomputable def zfD(K:W.Frag):Sp:=λvs H Q _=>∃(x:Str) (l lo:Int),vs=[.str x]/\x.length<=700000/\GoodT x l lo/\∀p H' ws,H p=none->Same H H'->H' p=some (.lst ws)->VR ws (za1 x l lo) cR H'->Q (.ref p) H'
theorem zeO (T:Txt P w K mg) (d:Df K mg "_law_cells" zbh ["_law_text"]):FnOk P w K mg base CX0 1 d.f d.fd ["_law_text"] (zfD K):=by
 refine d.F.ok zaL (λvs H Q E h=>?_) (λcdv A outer s H vs Q E hr h=>?_)
 .obtain⟨x,l,lo,rfl,_⟩:=h;rfl
 .obtain⟨x,n,m,rfl,hl,hgood,k⟩:=h;have nb0:(["_law_word"]:List Str).Nodup:=by decide +kernel
  have nb1:(["_law_at","_law_x","_law_y","_law_up","_law_row_here"]:List Str).Nodup:=by decide +kernel
  refine⟨_,(zac (sE 1 zaL.nd (pe_bm An Bg Bh zbz (pv 0) (pa_C zai zab)))
   (zac (zeI (zaO (osc:=zae zbh) (N:=zb0) (N':=["_law_word"]) (sel:=[none]) bO (zbM (pe_bm An Bg Bh zbz (pe_ix zao (pv 1) zad (λ_ _=>rfl)) (pa_C zai zab))) (λ_ _ _ _ _=>(nG 0 nb0)) (λ_ _ _ _ _=>za3) (λ_ _ _ _ _=>(zbj zcT (by rfl) T.nint (by rfl) (pa_N (pv 0) zab)))) (zgX (by rfl) (zaq (zba (i:=2) zaL.nd (by rfl) (CD rfl)) (zaq (zba (i:=3) zaL.nd (by rfl) (CD rfl)) zbN))))
   (zac (sE 4 zaL.nd (za0 zab))
   (zac (zbG Bx rfl (zbi (by rfl) T.nrange (pa_B (pe_op zbV (zah zaj (by rfl) T.nlen (by rfl) (pa_N (pv 1) zab)) zad) zab)) (zba (i:=5) zaL.nd (by rfl) (CD rfl))
   (zac (zdK (i:=6) zaL.nd (by rfl) (CD rfl) (pe_ix zao (pv 1) (pe_op zbV (pe_op zbV (zah zaj (by rfl) T.nlen (by rfl) (pa_N (pv 1) zab)) zad) (pv 5)) (λ_ _=>rfl)))
   (zag (za9 (pe_bm AR Di Dj zdf (pv 4) (zaf (zaO (osc:=zae zbh) (N:=zb0) (N':=["_law_at","_law_x","_law_y","_law_up","_law_row_here"]) (sel:=[none,some 2,some 3,some 5,some 6]) bO (zbi (by rfl) T.nrange (zaf (zah zat (by rfl) T.nlen (by rfl) (pa_N (pv 6) zab)) zab)) (λ_ _ _ _ _=>(nG 0 nb1)) (λ_ _ _ _ _=>zfh (zar op_eq (pe_ix zdR (pv 4) (pv 0) (λ_ _=>rfl)) zai (zaw _))) (λ_ _ _ _ _=>(za4 (pa_B (pe_op zaI (pv 1) (pv 0)) (pa_B (pe_op zaI (pv 2) (pv 3)) zab))))) zab))))))
   (zag (zay (pv 4))))))),?_⟩
  have hW:∀y∈Af x nlT,y.length<=700000:=λy hy=>by have:=join_mem_le nlT _ y hy;rw[BH]at this;lia
  have hWl:(Af x nlT).length<=700002:=by have:=Ch x nlT;lia
  have hW1:=zbI x nlT;refine⟨_,rfl,rfl,x,_,rfl,rfl,rfl,zal (by lia),λpw hpw=>?_⟩;have s1:=Same.up (o:=.lst ((Af x nlT).map V.str)) hpw;have e1:upd H pw (.lst ((Af x nlT).map V.str)) pw=some (.lst ((Af x nlT).map V.str)):=zaa;show tSeq _ _ _ _ (upd H pw (.lst ((Af x nlT).map V.str)));generalize upd H pw (.lst ((Af x nlT).map V.str))=H1 at s1 e1;have hrows:∃rows,rows=Af x nlT:=⟨_,rfl⟩;obtain⟨rows,hrows⟩:=hrows;obtain⟨g2,gn,gm,gj,gt⟩:=hgood;rw[<- hrows]at e1 hW hWl hW1 g2 gn gm gj gt;have hwl:(rows.map V.str).length=rows.length:=Ae _;have g0:=zaT (rows:=rows) (i:=0) (by lia);have hfew:=zfG gj;have hlast:za1 x n m=zaG n m rows (rows.length-1):=by unfold za1;rw[<- hrows]
  obtain⟨wa,wb,hab⟩:∃a b,Af (rowAt rows 0) spT=[a,b]:=by
   match Af (rowAt rows 0) spT,g2 with
   |[a,b],_=>exact⟨a,b,rfl⟩
  rw[hab]at gn gm;have gn:=zg3 (show numIn wa=some n from gn);have gm:=zg3 (show numIn wb=some m from gm);refine⟨_,rfl,pw,_,_,_,rfl,rfl,SqL.of e1,zas (j:=0) g0.1,rfl,rowAt rows 0,_,rfl,rfl,rfl,zal (by have:=hW _ g0.2;lia),λps hps=>?_⟩;rw[show Af (rowAt rows 0) (Aa " ")=[wa,wb] from hab];have s2:=Same.up (o:=.lst ([wa,wb].map V.str)) hps;have e2:upd H1 ps (.lst ([wa,wb].map V.str)) ps=some (.lst ([wa,wb].map V.str)):=zaa;generalize upd H1 ps (.lst ([wa,wb].map V.str))=H2 at s2 e2;refine⟨ps,rfl,⟨_,SqL.of e2⟩,λq hq=>?_⟩
  refine zb5 (K:=K) (a:=ps) (xs:=[wa,wb].map V.str) (λj σ H9=>∃o,σ=[o]/\Same H2 H9/\H9 q=some (.lst ((([n,m]:List Int).take j).map V.int)))
   ⟨_,rfl,Same.up hq,zaa⟩ (λj σ H9 _ ⟨_,_,s9,_⟩=>SqL.of (s9 _ _ e2)) ?_ ?_
  .rintro j u σ H9 hj ⟨o,rfl,s9,e9⟩;refine gN ?_
   match j,hj,e9 with
   | 0,hj,e9 =>
    cases hj
    refine⟨_,rfl,wa,n,rfl,gn.1,gn.2,?_⟩;refine⟨_,e9,(by show 0<sizeLine;decide),_,rfl,zax hq s9,?_⟩;rw[zaa];rfl
   | 1,hj,e9 =>
    cases hj
    refine⟨_,rfl,wb,m,rfl,gm.1,gm.2,?_⟩;refine⟨_,e9,(by show 1<sizeLine;decide),_,rfl,zax hq s9,?_⟩;rw[zaa];rfl
   |j+2,hj,_=>exact absurd hj (by simp)
  rintro σ H3 ⟨o,rfl,s3,e3⟩;have e3:H3 q=some (.lst [V.int n,V.int m]):=e3;refine⟨q,_,rfl,SqL.of e3,rfl,_,_,rfl,_,_,rfl,rfl,?_⟩;refine⟨A1 _,λpc hpc=>?_⟩;have s03:=s1.trans (s2.trans s3);have s4:=Same.up (o:=.lst []) hpc;have e4:upd H3 pc (.lst []) pc=some (.lst []):=zaa;generalize upd H3 pc (.lst [])=H4 at s4 e4;have e14:=(s2.trans (s3.trans s4)) _ _ e1;refine⟨_,rfl,pw,_,rfl,.inl (SqL.of e14),_,_,rfl,rfl,_,rfl,(by rw[hwl];lia),(by rw[hwl];lia),?_⟩;rw[hwl,show ((rows.length:Int)-1).toNat=rows.length-1 by lia];have hpw3:H3 pw=some (.lst (rows.map V.str)):=(s2.trans s3) _ _ e1
  refine zaJ (lo:=0) (n:=rows.length-1) (λi σ H5=>∃o5 o6,σ=[some (.str x),some (.ref pw),some (.int n),some (.int m),some (.ref pc),o5,o6]/\Same H3 H5/\∃vs,H5 pc=some (.lst vs)/\VR vs (zaG n m rows i) cR H5)
   ⟨_,_,rfl,s4,[],e4,VR.nil⟩ ?_ ?_
  .rintro i σ H5 hil ⟨o5,o6,rfl,s5,vs,e5,hv5⟩;simp only[zaA,AF,AG];obtain⟨y,hy⟩:∃y,y=rowAt rows (rows.length-1-i):=⟨_,rfl⟩;have gy:=zaT (rows:=rows) (i:=rows.length-1-i) (by lia);rw[<- hy]at gy
   have hyl:y.length<=60:=by
    refine hfew.2 y ?_
    have e:=gy.1;rw[A8]at e;obtain⟨z,hz,hzy⟩:=BN.mp e;injection hzy with hzy;subst hzy;refine AQ (i:=rows.length-1-i-1) ?_
    rw[A9,show 1+(rows.length-1-i-1)=rows.length-1-i by lia];exact hz
   have hcl:=zcH (l:=n) (lo:=m) hfew.2 i (by lia)
   have hvl:vs.length<=3600:=by rw[hv5.1];have:60*i<=60*60:=Nat.mul_le_mul_left 60 (by lia);lia
   have hix:(((rows.map V.str).length:Nat):Int)-1-(0+(i:Int))=((rows.length-1-i:Nat):Int):=by rw[hwl];lia
   have e5w:=s5 _ _ hpw3;refine⟨_,rfl,_,rfl,pw,_,rfl,.inl (SqL.of e5w),_,_,rfl,rfl,_,rfl,_,_,rfl,rfl,?_⟩;refine⟨pw,_,_,_,rfl,rfl,SqL.of e5w,(by rw[hix];exact zas gy.1),?_⟩;refine⟨_,rfl,.inl ⟨rfl,_,SqL.of e5⟩,_,rfl,y,rfl,zal (by lia),_,rfl,(by lia),(by lia),λg hg=>?_⟩;rw[BY]
   refine zaJ (lo:=0) (n:=y.length) (λj σ H10=>∃o0,σ=[o0,some (.int n),some (.int m),some (.int (0+(i:Int))),some (.str y)]/\Same H5 H10/\∃zs,H10 g=some (.lst zs)/\VR zs (rowC n (m+i) (cl y) j) cR H10)
    ⟨_,rfl,Same.up hg,[],zaa,VR.nil⟩ ?_ ?_
   .rintro j σ H10 hjl ⟨o0,rfl,s10,zs,e10,hz10⟩;obtain⟨c,hc'⟩:∃c,(cl y)[j]?=some c:=⟨_,Ad (by rw[zap];exact hjl)⟩
    have hzl:zs.length<=60:=by rw[hz10.1];have:=zb2 n (m+i) (cl y) j;lia
    refine⟨_,rfl,_,rfl,y,_,c,rfl,rfl,zal (by lia),(by rw[BM];exact zas hc'),rfl,_,rfl,?_⟩;have e35:Aa "#" = ⟨#[35]⟩:=by decide +kernel
    have hdec:decide (V.str ⟨#[c]⟩=V.str (Aa "#"))=decide (c=35):=by rw[e35];refine decide_eq_decide.mpr ⟨λz=>?_,λz=>by rw[z]⟩;injection z with z;injection z with z;injection z with z;injection z
    rw[hdec]
    have hrow:rowC n (m+i) (cl y) (j+1)=rowC n (m+i) (cl y) j++if c=35 then [(n+j,m+i)] else []:=by show _++_=_;rw[Ah,hc'];rfl
    refine ite2 (λhy=>?_) (λhn=>?_)
    .have hy:=of_decide_eq_true hy;rw[if_pos hy]at hrow;refine⟨_,rfl,_,rfl,_,_,rfl,rfl,_,rfl,_,rfl,_,_,rfl,rfl,two,λt1 ht1=>?_⟩;rw[BM,BM];have s12':=Same.up (o:=.tup [V.int (n+j),V.int (m+i)]) ht1;have r12:cR (n+(j:Int),m+(i:Int)) (.ref t1) (upd H10 t1 (.tup [V.int (n+j),V.int (m+i)])):=⟨t1,rfl,by rw[zaa];rfl⟩;generalize upd H10 t1 (.tup [V.int (n+j),V.int (m+i)])=H12 at s12' r12;have e13:=s12' _ _ e10;refine⟨zs,e13,zaF (by lia),_,rfl,zax hg (s10.trans s12'),_,zaa,?_⟩;rw[hrow];exact hz10.snoc (λx v h=>(h.kt (KT.of s12')).kt (KT.lst e13)) (r12.kt (KT.lst e13))
    .have hn:c≠35:=λz=>hn (decide_eq_true z)
     rw[if_neg hn,B3]at hrow;exact⟨_,rfl,s10,zs,e10,by rw[hrow];exact hz10⟩
   .rintro σ H10 ⟨o0,rfl,s10,zs,e10,hz10⟩
    have hzl:zs.length<=60:=by rw[hz10.1];have:=zb2 n (m+i) (cl y) y.length;lia
    have e90:=s10 _ _ e5;refine⟨pc,g,_,_,rfl,rfl,e90,e10,AK (m:=700000) (by lia) (by decide),?_⟩;have k10:KT H10 (upd H10 pc (.lst (vs++zs))):=KT.lst e90;refine⟨_,_,rfl,zax hpc (s5.trans s10),_,zaa,?_⟩;show VR _ (zaG n m rows i++rowC n (m+i) (cl (rowAt rows (rows.length-1-i))) (rowAt rows (rows.length-1-i)).length) _ _;rw[<- hy];exact (hv5.mono λx v h=>(h.kt (KT.of s10)).kt k10).app (hz10.mono λx v h=>h.kt k10)
  .rintro σ H5 ⟨o5,o6,rfl,s5,vs,e5,hv5⟩;rw[<- hlast]at hv5;exact⟨_,rfl,k pc H5 vs (s03.free hpc) (s03.trans s5) e5 hv5⟩
end
end RR
set_option maxRecDepth 700000
namespace RR
open PySem L2 RP
theorem zco:∀l:List Nat,(l.map λc=>decide (c∈cl (Aa "#."))).all id=decide (l.count 35+l.count 46=l.length)
 |[]=>rfl
 |c::r=>by
  have ih:=zco r
  have h1:r.count 35+r.count 46<=r.length:=by
   have:∀l:List Nat,l.count 35+l.count 46<=l.length:=λl=>by
    induction l with
    |nil=>exact Ai _
    |cons a r ih =>
     rw[List.count_cons,List.count_cons,AD]
     by_cases h3:a=35
     .subst h3;simp;lia
     .by_cases h4:a=46
      .subst h4;simp;lia
      .simp[h3,h4];lia
   exact this r
  have hc:decide (c∈cl (Aa "#."))=(decide (c=35) ||decide (c=46)):=by
   rw[show cl (Aa "#.")=[35,46] by decide +kernel]
   by_cases h3:c=35
   .subst h3;rfl
   .by_cases h4:c=46
    .subst h4;rfl
    .simp[h3,h4]
  rw[AZ,List.all_cons,ih,hc,List.count_cons,List.count_cons,AD]
  by_cases h3:c=35
  .subst h3;simp;lia
  .by_cases h4:c=46
   .subst h4;simp;lia
   .simp[h3,h4];lia
theorem zci{t:TS}{D:Ends}{σ:St}{H:Hp}(h:t D σ H):tNext { D with nx:=t D } σ H:=h
section
variable {P:Am}{w:AB}{K:W.Frag}{mg:Str->Option Value}{base:Heap}
theorem zeW{te:TE}{f:Str -> Str}{o:Option V}{H1:Hp}{q a:Addr}{rows:List Str}{D:Ends}(ha:SqL K H1 a (rows.map V.str))(hq:H1 q=none)(hn:rows.length <= 1000000)(hf:∀r ∈ rows, ∀(H2:Hp) (Q1:VK), Q1 (.str (f r)) H2 -> te [some (.str r)] H2 Q1)
  (k:∀ σ H',Same H1 H'->H' q=some (.lst ((rows.map f).map V.str))->D.nx σ H'):zcm (Itl K a) (gName 0) (tIfs (λx H Q=>Q true H) (zc5 q te)) D [o] (upd H1 q (.lst [])):=by
 refine zb5 (K:=K) (a:=a) (xs:=rows.map V.str) (λj σ H9=>∃o,σ=[o]/\Same H1 H9/\H9 q=some (.lst (((rows.take j).map f).map V.str)))
  ⟨_,rfl,Same.up hq,zaa⟩ (λj σ H9 _ ⟨_,_,s9,_⟩=>s9.seq ha) ?_ ?_
 .rintro j u σ H9 hj ⟨o,rfl,s9,e9⟩;rw[A8]at hj;obtain⟨r,hr,rfl⟩:=BN.mp hj;have hjl:=(Aj.mp hr).1;refine gN ?_
  refine hf r (AQ hr) _ _ ?_
  refine⟨_,e9,A6 (m:=1000000) (by simp only[Ae,AJ];lia) (by decide),_,rfl,zax hq s9,?_⟩;rw[zaa,zbe hr,Ak,Ak];rfl
 .rintro σ H9 ⟨o,rfl,s9,e9⟩;rw[AL (by rw[Ae];exact Ai _)]at e9;exact k _ H9 s9 e9
noncomputable def dS(ys:List Str):List PyData:=ys.map PyData.str
theorem zd2{H:Hp}:∀ys:List Str,RDs K H (ys.map V.str) (dS ys)
 |[]=>.nil
 |y::r=>.cons (.str y) (zd2 r)
theorem zc8{ys:List Str}(h:∀y∈ys,C6 y=true):∀e∈dS ys,A0 e=true:=λe he=>by obtain⟨y,hy,rfl⟩:=AO.mp he;simp[A0,BX,BW,h y hy]
theorem zf1(z:Str)(ys:List Str):((dS ys).any λe=>B4 e (.str z))=ys.any λy=>decide (y=z):=by unfold dS;rw[List.any_map];rfl
noncomputable def zii:Sp:=λvs H Q _=>∃x:Str,vs=[.str x]/\x.length<=700000/\(∀r c t H',BadT x r c->Same H H'->H t=none->H' t=some (.tup [.int (r:Int),.int (c:Int)])->Q (.ref t) H')/\(∀l lo H',GoodT x l lo->Same H H'->Q .non H')
theorem zf8 (T:Txt P w K mg) (g__law_number:Fn P w K mg base 1 "_law_number" ["_law_word"] zih) (d:Df K mg "_law_bad" za8 ["_law_text"]):FnOk P w K mg base CX0 2 d.f d.fd ["_law_text"] zii:=by
 refine d.F.ok zaX (λvs H Q E h=>?_) (λcdv A outer s H vs Q E hr h=>?_)
 .obtain⟨x,rfl,_⟩:=h;rfl
 .obtain⟨x,rfl,hl,kb,kg⟩:=h;have hu65:(A.deeper (PyProof.Rows.envOfC (Aa "_law_bad") (zae za8) s.heap.objs.size d.f cdv)).units+65<cLine:=by have:=hr.un;lia
  have nb0:(["_law_sign"]:List Str).Nodup:=by decide +kernel
  have nb1:(["_law_row_here"]:List Str).Nodup:=by decide +kernel
  have nb2:(["_law_row_here"]:List Str).Nodup:=by decide +kernel
  refine⟨_,(zac (sE 1 zaX.nd (pe_bm An Bg Bh zbz (pv 0) (pa_C zai zab)))
   (zac (sE 2 zaX.nd (pe_bm An Bg Bh zbz (pe_ix zao (pv 1) zad (λ_ _=>rfl)) (pa_C zai zab)))
   (zac (zbG Bx rfl (zbi (by rfl) T.nrange (pa_C zad zab)) (nG 3 zaX.nd)
   (zag (ps_if (pw_or (zar op_ge (pv 3) (zah zaj (by rfl) T.nlen (by rfl) (pa_N (pv 2) zab)) (zaw _)) (zcq (zcr (zdb (pC g__law_number hr (zaf (pe_ix zao (pv 2) (pv 3) (λ_ _=>rfl)) zab)))))).pt
   (zag (zay (za4 (pa_C zad (pa_N (pv 3) zab)))))
   zaH)))
   (zac (ps_if (zar op_gt (zah zaj (by rfl) T.nlen (by rfl) (pa_N (pv 2) zab)) zad (zaw _))
   (zag (zay (za4 (pa_C zad (pa_C zad zab)))))
   zaH)
   (zac (sE 4 zaX.nd zad)
   (zac (zbG Bx rfl (zdc (by rfl) T.nrange (pa_C zad (zaf (zah zaj (by rfl) T.nlen (by rfl) (pa_N (pv 1) zab)) zab))) (nG 5 zaX.nd)
   (zac (sE 4 zaX.nd (pe_op zaI (pv 4) (pe_bm An CG CH zcw (pe_ix zao (pv 1) (pv 5) (λ_ _=>rfl)) (pa_C zai zab))))
   (zac (ps_if (pw_or (zcr (zdb (zah (zcz rfl) (by rfl) T.nall (by rfl) (zaf (zaO (osc:=zae za8) (N:=zb8) (N':=["_law_sign"]) (sel:=[none]) bO (zgW (pe_ix zao (pv 1) (pv 5) (λ_ _=>rfl))) (λ_ _ _ _ _=>(nG 0 nb0)) (λ_ _ _ _ _=>za3) (λ_ _ _ _ _=>(za5 zct (pv 0) zai rfl))) zab)))) (zcq (zar op_ne (zah zat (by rfl) T.nlen (by rfl) (zaf (pe_ix zao (pv 1) (pv 5) (λ_ _=>rfl)) zab)) (zah zat (by rfl) T.nlen (by rfl) (zaf (pe_ix zao (pv 1) zad (λ_ _=>rfl)) zab)) (zaw _)))).pt
   (zag (zay (za4 (pa_N (pv 5) (pa_C zad zab)))))
   zaH)
   (zag (ps_if (pw_or (zar op_gt (zah zat (by rfl) T.nlen (by rfl) (zaf (pe_ix zao (pv 1) (pv 5) (λ_ _=>rfl)) zab)) zad (zaw _)) (pw_or (zar op_gt (pv 5) zad (zaw _)) (zcq (zar op_gt (pv 4) zad (zaw _))))).pt
   (zag (zay (za4 (pa_N (pv 5) (pa_C zad zab)))))
   zaH)))))
   (zac (ps_if (pw_or (zar op_eq (zah zaj (by rfl) T.nlen (by rfl) (pa_N (pv 1) zab)) zad (zaw _)) (pw_or (zar zcQ zai (pe_ix zao (pv 1) zad (λ_ _=>rfl)) rfl) (zcq (zar zcQ zai (pe_ix zao (pv 1) (pe_un zcl zad) (λ_ _=>rfl)) rfl)))).pt
   (zag (zay (za4 (zaf (zah zaj (by rfl) T.nlen (by rfl) (pa_N (pv 1) zab)) (pa_C zad zab)))))
   zaH)
   (zac (ps_if (pw_or (zar (zeL hu65) zai (zaO (osc:=zae za8) (N:=zb8) (N':=["_law_row_here"]) (sel:=[none]) bO (zbM (zau za7 (pv 1) (zaD zad) zaE)) (λ_ _ _ _ _=>(nG 0 nb2)) (λ_ _ _ _ _=>za3) (λ_ _ _ _ _=>(pe_ix zdR (pv 0) zad (λ_ _=>rfl)))) rfl) (zcq (zar (zeL hu65) zai (zaO (osc:=zae za8) (N:=zb8) (N':=["_law_row_here"]) (sel:=[none]) bO (zbM (zau za7 (pv 1) (zaD zad) zaE)) (λ_ _ _ _ _=>(nG 0 nb1)) (λ_ _ _ _ _=>za3) (λ_ _ _ _ _=>(pe_ix zdR (pv 0) (pe_un zcl zad) (λ_ _=>rfl)))) rfl))).pt
   (zag (zay (za4 (zaf (zah zaj (by rfl) T.nlen (by rfl) (pa_N (pv 1) zab)) (pa_C zad zab)))))
   zaH)
   (zag (zay zcP)))))))))),?_⟩
  have hW:∀y∈Af x nlT,y.length<=700000:=λy hy=>by have:=join_mem_le nlT _ y hy;rw[BH]at this;lia
  have hWl:(Af x nlT).length<=700002:=by have:=Ch x nlT;lia
  have hW1:=zbI x nlT;refine⟨_,rfl,rfl,x,_,rfl,rfl,rfl,zal (by lia),λpw hpw=>?_⟩;have s1:=Same.up (o:=.lst ((Af x nlT).map V.str)) hpw;have e1:upd H pw (.lst ((Af x nlT).map V.str)) pw=some (.lst ((Af x nlT).map V.str)):=zaa;show tSeq _ _ _ _ (upd H pw (.lst ((Af x nlT).map V.str)));generalize upd H pw (.lst ((Af x nlT).map V.str))=H1 at s1 e1;have hrows:∃rows,rows=Af x nlT:=⟨_,rfl⟩;obtain⟨rows,hrows⟩:=hrows;have bplace:∀{n},badW (Af (rowAt rows 0) spT)=some n->BadT x 0 n:=λh=>.place (by rw[<- hrows];exact h)
  have brow:∀{i},badW (Af (rowAt rows 0) spT)=none->1<=i->i<rows.length->badR rows i=true->(∀j,1<=j->j<i->badR rows j=false)->BadT x i 0:=λh1 h2 h3 h4 h5=>by rw[hrows]at h1 h3 h4 h5;exact .row h1 h2 h3 h4 h5
  have btight:badW (Af (rowAt rows 0) spT)=none->(∀j,1<=j->j<rows.length->badR rows j=false)->zbv (rows.drop 1)=false->BadT x rows.length 0:=λh1 h2 h3=>by rw[hrows]at h1 h2 h3 ⊢;exact .tight h1 h2 h3
  have bgood:∀{l lo},(Af (rowAt rows 0) spT).length=2->numW (Af (rowAt rows 0) spT) 0=some l->numW (Af (rowAt rows 0) spT) 1=some lo->(∀j,1<=j->j<rows.length->badR rows j=false)->zbv (rows.drop 1)=true->GoodT x l lo:=λh1 h2 h3 h4 h5=>by rw[hrows]at h1 h2 h3 h4 h5;exact⟨h1,h2,h3,h4,h5⟩
  rw[<- hrows]at e1 hW hWl hW1;have hwl:(rows.map V.str).length=rows.length:=Ae _;have g0:=zaT (rows:=rows) (i:=0) (by lia);refine⟨_,rfl,pw,_,_,_,rfl,rfl,SqL.of e1,zas (j:=0) g0.1,rfl,rowAt rows 0,_,rfl,rfl,rfl,zal (by have:=hW _ g0.2;lia),λps hps=>?_⟩
  have hV:∀y∈Af (rowAt rows 0) spT,y.length<=700000:=λy hy=>by have:=join_mem_le spT _ y hy;rw[BH]at this;have:=hW _ g0.2;lia
  have hVl:(Af (rowAt rows 0) spT).length<=700002:=by have:=Ch (rowAt rows 0) spT;have:=hW _ g0.2;lia
  have s2:=Same.up (o:=.lst ((Af (rowAt rows 0) spT).map V.str)) hps;have e2:upd H1 ps (.lst ((Af (rowAt rows 0) spT).map V.str)) ps=some (.lst ((Af (rowAt rows 0) spT).map V.str)):=zaa;show tSeq _ _ _ _ (upd H1 ps (.lst ((Af (rowAt rows 0) spT).map V.str)));generalize upd H1 ps (.lst ((Af (rowAt rows 0) spT).map V.str))=H2 at s2 e2;generalize Af (rowAt rows 0) spT=ws at *;have hvl:(ws.map V.str).length=ws.length:=Ae _;have s12:=s1.trans s2;have e12:=s2 _ _ e1
  have ret:∀(D:Ends) (H':Hp) (r c:Nat) (t:Addr),D.rt=Q->BadT x r c->Same H H'->H' t=none->D.rt (.ref t) (upd H' t (.tup [V.int (r:Int),V.int (c:Int)])):=λD H' r c t hD hb s ht=>by rw[hD];exact kb r c t _ hb (s.trans (Same.up ht)) (s.free ht) zaa
  refine⟨2,rfl,by decide,by decide,?_⟩
  refine zaJ (lo:=0) (n:=2) (λi σ H3=>∃o3,σ=[some (.str x),some (.ref pw),some (.ref ps),o3,none,none]/\Same H2 H3/\∀j,j<i->∃n,numW ws j=some n)
   ⟨_,rfl,Same.refl _,λj hj=>absurd hj (Nat.not_lt_zero _)⟩ ?_ ?_
  .rintro i σ H3 hi ⟨o3,rfl,s3,hj⟩;simp only[zaA,AF,AG];rw[BM];have e23:=s3 _ _ e2
   have hbad:numW ws i=none->badW ws=some i:=λhz=>by
    unfold badW
    match i,hi,hj,hz with
    | 0,_,_,hz=>rw[hz,if_pos rfl]
    | 1,_,hj,hz =>
     obtain⟨n,hn⟩:=hj 0 (by decide);rw[hn,if_neg (λz=>nomatch z),hz,if_pos rfl]
   refine⟨_,rfl,_,rfl,ps,_,rfl,.inl (SqL.of e23),_,_,rfl,rfl,_,rfl,?_⟩;rw[hvl]
   by_cases hil:ws.length<=i
   .refine iteY (decide_eq_true (by lia)) (iteT ?_);have hz:numW ws i=none:=by unfold numW;rw[CO hil];rfl
    refine⟨_,rfl,two,λt ht=>?_⟩;exact ret _ _ 0 i t rfl (bplace (hbad hz)) (s12.trans s3) ht
   refine iteN (decide_eq_false (by lia)) ?_
   have gi:=zaT (rows:=ws) (i:=i) (by lia);refine⟨_,rfl,_,rfl,ps,_,_,_,rfl,rfl,SqL.of e23,zas gi.1,rowAt ws i,rfl,hV _ gi.2,λH4 s4=>⟨_,rfl,?_⟩⟩
   have hnum:numW ws i=numIn (rowAt ws i):=by unfold numW rowAt;rw[Ah,Ad (by lia)];rfl
   by_cases hok:zcv (cl (rowAt ws i))=true
   .rw[hok];refine iteF ?_
    refine⟨_,rfl,s3.trans s4,λj hji=>?_⟩
    by_cases h:j=i
    .subst h;exact⟨_,by rw[hnum];unfold numIn;rw[if_pos hok]⟩
    .exact hj j (by lia)
   .rw[AN.mpr hok];refine iteT ?_
    refine⟨_,rfl,two,λt ht=>?_⟩;exact ret _ _ 0 i t rfl (bplace (hbad (by rw[hnum];unfold numIn;rw[if_neg hok]))) (s12.trans (s3.trans s4)) ht
  .rintro σ H3 ⟨o3,rfl,s3,hj⟩;obtain⟨n,hn⟩:=hj 0 (by decide);obtain⟨m,hm⟩:=hj 1 (by decide)
   have hlen2:2<=ws.length:=by
    by_cases h:2<=ws.length
    .exact h
    .unfold numW at hm;rw[show ws[1]?=none from CO (by lia)]at hm
     cases hm
   have e13:=s3 _ _ e12;refine⟨_,rfl,ps,_,rfl,.inl (SqL.of (s3 _ _ e2)),_,_,rfl,rfl,_,rfl,?_⟩;rw[hvl]
   by_cases h2:2<ws.length
   .refine iteY (decide_eq_true (by lia)) ?_
    refine⟨two,λt ht=>?_⟩;refine ret _ _ 0 2 t rfl (bplace ?_) (s12.trans s3) ht;unfold badW;rw[hn,hm,if_neg (λz=>nomatch z),if_neg (λz=>nomatch z),if_pos h2]
   refine iteN (decide_eq_false (by lia)) ?_
   have h2:ws.length=2:=by lia
   have hb0:=zdq h2 hn hm;have s03:=s12.trans s3;refine⟨_,rfl,pw,_,rfl,.inl (SqL.of e13),?_⟩;have hs0:=hwl;refine⟨1,_,rfl,⟨by decide,by decide,by rw[hwl];lia,by rw[hwl];lia⟩,?_⟩;rw[hwl,show ((rows.length:Int)-1).toNat=rows.length-1 by lia]
   refine zaJ (lo:=1) (n:=rows.length-1) (λi σ H4=>∃o5,σ=[some (.str x),some (.ref pw),some (.ref ps),o3,some (.int (cum rows i:Nat)),o5]/\Same H3 H4/\∀j,1<=j->j<i+1->badR rows j=false)
    ⟨_,rfl,Same.refl _,λj h1 h2=>absurd h2 (by lia)⟩ ?_ ?_
   .rintro i σ H4 hi ⟨o5,rfl,s4,hj4⟩;simp only[zaA,AF,AG];have hi1:i+1<rows.length:=by lia
    rw[show (1:Int)+(i:Int)=((i+1:Nat):Int) by lia];have gi:=zaT hi1;have g1:=zaT (rows:=rows) (i:=1) (by lia);have e35:Aa "#" = ⟨#[35]⟩:=by decide +kernel
    have e14:=s4 _ _ e13;refine⟨_,rfl,_,rfl,_,rfl,pw,_,_,_,rfl,rfl,SqL.of e14,zas gi.1,rfl,_,_,rfl,rfl,_,_,rfl,rfl,?_⟩;simp only[zaA,AF,AG];rw[e35,zcu,show (((cum rows i:Nat):Int)+(((cl (rowAt rows (i+1))).count 35:Nat):Int))=((cum rows (i+1):Nat):Int) from rfl];generalize hy:rowAt rows (i+1)=y at *;have hyl:=hW _ gi.2;have brow':badR rows (i+1)=true->BadT x (i+1) 0:=λh=>brow hb0 (by lia) hi1 h hj4
    refine⟨_,rfl,_,rfl,pw,_,_,_,rfl,rfl,SqL.of e14,zas gi.1,y,rfl,λq hq=>?_⟩;refine zfq (λj σ H9=>∃o,σ=[o]/\Same H4 H9/\H9 q=some (.lst ((((cl y).take j).map λc=>decide (c∈cl (Aa "#."))).map V.bl))) ⟨_,rfl,Same.up hq,zaa⟩ ?_ ?_
    .rintro j c σ H9 hc ⟨o,rfl,s9,e9⟩;have hc':(cl y)[j]?=some c:=by rw[<- hc];simp
     have hj:=(Aj.mp hc').1;rw[zap]at hj;refine gN ?_
     refine⟨_,rfl,_,_,rfl,rfl,?_⟩;rw[zfT];refine⟨_,e9,A6 (m:=700000) (by simp only[Ae,AJ];lia) (by decide),_,rfl,zax hq s9,?_⟩;rw[zaa,zbe hc',Ak,Ak];rfl
    .rintro σ H9 ⟨o,rfl,s9,e9⟩;rw[AL (by rw[zap];exact Ai _)]at e9;refine⟨q,_,rfl,SqL.of e9,_,rfl,?_⟩;rw[zco];have s39:=s03.trans (s4.trans s9);have e19:=s9 _ _ e14
     have bad:¬ (y.length=(rowAt rows 1).length/\y.length<=60/\(cl y).count 35+(cl y).count 46=(cl y).length/\i+1<=60/\cum rows (i+1)<=120)->BadT x (i+1) 0:=λz=>brow' (by
      unfold badR zcn;rw[hy]
      cases q:(!(decide (y.length=(rowAt rows 1).length) && (decide (y.length<=60) && decide ((cl y).count 35+(cl y).count 46=(cl y).length))) || (decide (60<i+1) ||decide (120<cum rows (i+1)))) with
      |true=>rfl
      |false =>
       refine absurd ?_ z;simp only[C0,Dm,AX,decide_eq_true_iff,decide_eq_false_iff_not]at q;lia)
     by_cases c1:(cl y).count 35+(cl y).count 46=(cl y).length
     rotate_left
     .rw[decide_eq_false c1];refine iteT (iteT ?_);refine⟨_,rfl,two,λt ht=>?_⟩;exact ret _ _ (i+1) 0 t rfl (bad λz=>c1 z.2.2.1) s39 ht
     rw[decide_eq_true c1];refine iteF ?_
     refine⟨_,rfl,_,rfl,pw,_,_,_,rfl,rfl,SqL.of e19,zas gi.1,y,rfl,zal (by lia),_,rfl,pw,_,_,_,rfl,rfl,SqL.of e19,zas (j:=1) g1.1,_,rfl,zal (by have:=hW _ g1.2;lia),rfl,_,rfl,?_⟩
     by_cases c2:y.length=(rowAt rows 1).length
     rotate_left
     .refine iteY (by rw[decide_eq_false (λz=>c2 (by injection z with z;lia))];rfl) ?_
      refine⟨_,rfl,two,λt ht=>?_⟩;exact ret _ _ (i+1) 0 t rfl (bad λz=>c2 z.1) s39 ht
     refine iteN (by rw[c2,decide_eq_true rfl];rfl) ?_
     refine zci ?_
     refine⟨_,rfl,_,rfl,pw,_,_,_,rfl,rfl,SqL.of e19,zas gi.1,y,rfl,zal (by lia),_,_,rfl,rfl,_,rfl,?_⟩
     by_cases c3:y.length<=60
     rotate_left
     .refine iteY (decide_eq_true (by lia)) (iteT ?_);refine⟨_,rfl,two,λt ht=>?_⟩;exact ret _ _ (i+1) 0 t rfl (bad λz=>c3 z.2.1) s39 ht
     refine iteN (decide_eq_false (by lia)) ?_
     refine⟨_,rfl,_,_,rfl,rfl,_,rfl,?_⟩
     by_cases c4:i+1<=60
     rotate_left
     .refine iteY (decide_eq_true (by lia)) (iteT ?_);refine⟨_,rfl,two,λt ht=>?_⟩;exact ret _ _ (i+1) 0 t rfl (bad λz=>c4 z.2.2.2.1) s39 ht
     refine iteN (decide_eq_false (by lia)) ?_
     refine⟨_,rfl,_,_,rfl,rfl,_,rfl,?_⟩
     by_cases c5:cum rows (i+1)<=120
     rotate_left
     .refine iteY (decide_eq_true (by lia)) ?_
      refine⟨_,rfl,two,λt ht=>?_⟩;exact ret _ _ (i+1) 0 t rfl (bad λz=>c5 z.2.2.2.2) s39 ht
     refine iteN (decide_eq_false (by lia)) ?_
     refine⟨_,rfl,s4.trans s9,λj j1 j2=>?_⟩
     by_cases hjj:j=i+1
     .subst hjj;unfold badR zcn;rw[hy,decide_eq_true c1,decide_eq_true c2,decide_eq_true c3,decide_eq_false (by lia),decide_eq_false (by lia)];rfl
     .exact hj4 j j1 (by lia)
   .rintro σ H4 ⟨o5,rfl,s4,hj4⟩;have hj5:∀j,1<=j->j<rows.length->badR rows j=false:=λj h1 h2=>hj4 j h1 (by lia)
    have s34:=s03.trans s4;have e14:=s4 _ _ e13;have e35:Aa "#" = ⟨#[35]⟩:=by decide +kernel
    refine⟨_,rfl,pw,_,rfl,.inl (SqL.of e14),rfl,_,rfl,?_⟩;rw[hwl]
    by_cases h1:rows.length=1
    .refine iteY (decide_eq_true (by rw[h1];rfl)) (iteT ?_);refine⟨_,rfl,pw,_,rfl,.inl (SqL.of e14),two,λt ht=>?_⟩;rw[hwl];refine ret _ _ rows.length 0 t rfl (btight hb0 hj5 ?_) s34 ht;unfold zbv;rw[show rows.drop 1=[] from Bf (by lia)];rfl
    refine iteN (decide_eq_false (λz=>h1 (by injection z with z;lia))) ?_
    have g1:=zaT (rows:=rows) (i:=1) (by lia);have g9:=zaT (rows:=rows) (i:=rows.length-1) (by lia)
    have hti:zbv (rows.drop 1)=(decide (35∈cl (rowAt rows 1)) && (decide (35∈cl (rowAt rows (rows.length-1))) && ((rows.drop 1).any (λr=>decide (35∈(cl r).take 1)) && (rows.drop 1).any (λr=>decide (35∈(cl r).drop (r.length-1)))))):=by
     unfold zbv
     rw[show (rows.drop 1).isEmpty=false by
      cases q:rows.drop 1 with
      |nil =>
       have:=congrArg List.length q;rw[AC,Bv]at this;lia
      |cons a r=>rfl]
     rw[show rowAt (rows.drop 1) 0=rowAt rows 1 by unfold rowAt;rw[Ah,Ah,A9]]
     rw[show rowAt (rows.drop 1) ((rows.drop 1).length-1)=rowAt rows (rows.length-1) by unfold rowAt;rw[Ah,Ah,A9,AC,show 1+(rows.length-1-1)=rows.length-1 by lia]]
     rfl
    have back:zbv (rows.drop 1)=false->∀(D:Ends) (t:Addr) (H':Hp),D.rt=Q->Same H H'->H' t=none->D.rt (.ref t) (upd H' t (.tup [V.int (rows.length:Int),V.int ((0:Nat):Int)])):=λz D t H' hD s ht=>ret D H' rows.length 0 t hD (btight hb0 hj5 z) s ht
    refine⟨_,rfl,pw,_,_,_,rfl,rfl,SqL.of e14,zas (j:=1) g1.1,_,_,rfl,rfl,_,rfl,?_⟩;rw[e35,zfT]
    by_cases hA:35∈cl (rowAt rows 1)
    rotate_left
    .rw[decide_eq_false hA];rw[decide_eq_false hA,Bool.false_and]at hti;refine iteT (iteT ?_);refine⟨_,rfl,pw,_,rfl,.inl (SqL.of e14),two,λt ht=>?_⟩;rw[hwl];exact back hti _ t _ rfl s34 ht
    rw[decide_eq_true hA]at hti ⊢;refine iteF ?_
    refine⟨_,rfl,1,rfl,pw,_,_,_,rfl,rfl,SqL.of e14,(RR.atI_last (by rw[hwl];lia)).trans (by rw[hwl];exact g9.1),_,_,rfl,rfl,_,rfl,?_⟩;rw[zfT]
    by_cases hB:35∈cl (rowAt rows (rows.length-1))
    rotate_left
    .rw[decide_eq_false hB];rw[decide_eq_false hB,Bool.false_and,CV]at hti;refine iteT ?_
     refine⟨_,rfl,pw,_,rfl,.inl (SqL.of e14),two,λt ht=>?_⟩;rw[hwl];exact back hti _ t _ rfl s34 ht
    rw[decide_eq_true hB]at hti ⊢;refine iteF ?_
    rw[CN,CN]at hti
    have hpos:∀r∈rows.drop 1,0<r.length/\∀c∈cl r,c<0x110000:=λr hr=>by
     obtain⟨i,hi⟩:=CP.mp hr;rw[A9]at hi;have hil:=(Aj.mp hi).1;have hb:=hj5 (1+i) (by lia) hil;have hri:rowAt rows (1+i)=r:=by unfold rowAt;rw[Ah,hi];rfl
     unfold badR zcn at hb;rw[hri]at hb;simp only[C0,Dm,AX,decide_eq_true_iff,decide_eq_false_iff_not]at hb;refine⟨?_,λc hc=>?_⟩
     .have:0<(rowAt rows 1).length:=by rw[<- zap];exact List.length_pos_of_mem hA
      lia
     .have hs:=zco (cl r);rw[decide_eq_true hb.1.2.2,List.all_map,List.all_eq_true]at hs;have:=of_decide_eq_true (hs c hc);rw[show cl (Aa "#.")=[35,46] by decide +kernel]at this;rcases Ax.mp this with rfl |this
      .decide
      .rw[Av.mp this];decide
    have hdl:(rows.drop 1).length<=700002:=by rw[AC];lia
    have hcut:cutV (rows.map V.str) (some 1) none=(rows.drop 1).map V.str:=by rw[show (1:Int)=((1:Nat):Int) from rfl,zbu,Cr]
    have htW:∀r∈rows.drop 1,r.length<=700000:=λr hr=>hW r (List.mem_of_mem_drop hr)
    generalize rows.drop 1=tl at *
    have one:∀(f:Str->Str) (g:Str->Nat),(∀r∈tl,f r=⟨#[(cl r).getD (g r) 0]⟩/\g r<r.length)->(∀y∈tl.map f,C6 y=true)/\((tl.map f).any λy=>decide (y=(⟨#[35]⟩:Str)))=tl.any λr=>decide ((cl r).getD (g r) 0=35):=λf g hf=>by
     constructor
     .intro y hy;obtain⟨r,hr,rfl⟩:=AO.mp hy;rw[(hf r hr).1]
      have hlt:(cl r).getD (g r) 0<0x110000:=by rw[Ah,Ad (by rw[zap];exact (hf r hr).2)];exact (hpos r hr).2 _ (Bz _)
      show (#[(cl r).getD (g r) 0]).all (·<0x110000)=true;simpa using hlt
     .rw[List.any_map];refine Bool.eq_iff_iff.mpr ?_
      rw[C5,C5];constructor
      .rintro⟨r,hr,hz⟩;refine⟨r,hr,decide_eq_true ?_⟩;have hz:f r=⟨#[35]⟩:=of_decide_eq_true hz;rw[(hf r hr).1]at hz;injection hz with hz;injection hz with hz;injection hz
      .rintro⟨r,hr,hz⟩;refine⟨r,hr,?_⟩;show decide (f r=_)=true;rw[(hf r hr).1,of_decide_eq_true hz];exact decide_eq_true rfl
    have takes:∀r∈tl,decide ((cl r).getD 0 0=35)=decide (35∈(cl r).take 1):=λr hr=>by
     cases q:cl r with
     |nil =>
      have:=(hpos r hr).1;rw[<- zap,q]at this;exact absurd this (Cb _)
     |cons a s =>
      show decide (a=35)=decide (35∈[a]);exact decide_eq_decide.mpr ⟨λz=>by rw[z];exact Av.mpr rfl,λz=>(Av.mp z).symm⟩
    have drops:∀r∈tl,decide ((cl r).getD (r.length-1) 0=35)=decide (35∈(cl r).drop (r.length-1)):=λr hr=>by
     have hp:=(hpos r hr).1
     have e:(cl r).drop (r.length-1)=[(cl r).getD (r.length-1) 0]:=by rw[BP (by rw[zap];lia),Bf (by rw[zap];lia),Ah,Ad (by rw[zap];lia)];rfl
     rw[e];exact decide_eq_decide.mpr ⟨λz=>by rw[z];exact Av.mpr rfl,λz=>(Av.mp z).symm⟩
    have anyc:∀f g:Str->Bool,(∀r∈tl,f r=g r)->tl.any f=tl.any g:=λf g h=>by rw[Cj,C5,C5];exact⟨λ⟨r,hr,z⟩=>⟨r,hr,by rw[<- h r hr];exact z⟩,λ⟨r,hr,z⟩=>⟨r,hr,by rw[h r hr];exact z⟩⟩
    have htll:∀r∈tl,r.length<=1000000:=λr hr=>by have:=hW1;have:=htW r hr;lia
    refine zci ?_
    refine⟨_,rfl,1,rfl,pw,_,rfl,SqL.of e14,λp4 hp4=>?_⟩;rw[hcut];have s5:=Same.up (o:=.lst (tl.map V.str)) hp4;have e5:upd H4 p4 (.lst (tl.map V.str)) p4=some (.lst (tl.map V.str)):=zaa;generalize upd H4 p4 (.lst (tl.map V.str))=H5 at s5 e5;refine⟨p4,rfl,⟨_,SqL.of e5⟩,λq hq=>?_⟩;refine zeW (f:=λr=>⟨#[(cl r).getD 0 0]⟩) (SqL.of e5) hq (by lia) (λr hr H6 Q6 k6=>?_) λσ6 H6 s6 e6=>?_
    .refine⟨_,rfl,r,_,_,rfl,rfl,zal (htll r hr),zas (j:=0) (v:=(cl r).getD 0 0) ?_,k6⟩;rw[show r.cps.toList=cl r from rfl,Ah,Ad (by rw[zap];exact (hpos r hr).1)];rfl
    obtain⟨o1,o2⟩:=one (λr=>⟨#[(cl r).getD 0 0]⟩) (λ_=>0) λr hr=>⟨rfl,(hpos r hr).1⟩
    refine⟨q,_,_,_,rfl,SqL.of e6,.str _,zd2 _,by simp[A0,BX,BW,C6],zc8 o1,_,rfl,?_⟩;rw[zf1,o2,anyc _ _ takes];have s46:=s34.trans (s5.trans s6)
    by_cases hC:(tl.any λr=>decide (35∈(cl r).take 1))=true
    rotate_left
    .have hC:=AN.mpr hC;rw[hC]at hti ⊢;refine iteT (iteT ?_);refine⟨_,rfl,pw,_,rfl,.inl (SqL.of ((s5.trans s6) _ _ e14)),two,λt ht=>?_⟩;rw[hwl];exact back hti _ t _ rfl s46 ht
    rw[hC]at hti ⊢;refine iteF ?_
    have e16:=(s5.trans s6) _ _ e14;refine⟨_,rfl,1,rfl,pw,_,rfl,SqL.of e16,λp7 hp7=>?_⟩;rw[hcut];have s7:=Same.up (o:=.lst (tl.map V.str)) hp7;have e7:upd H6 p7 (.lst (tl.map V.str)) p7=some (.lst (tl.map V.str)):=zaa;generalize upd H6 p7 (.lst (tl.map V.str))=H7 at s7 e7;refine⟨p7,rfl,⟨_,SqL.of e7⟩,λq8 hq8=>?_⟩;refine zeW (f:=λr=>⟨#[(cl r).getD (r.length-1) 0]⟩) (SqL.of e7) hq8 (by lia) (λr hr H8 Q8 k8=>?_) λσ8 H8 s8 e8=>?_
    .have hp:=(hpos r hr).1;refine⟨_,rfl,1,rfl,r,_,_,rfl,rfl,zal (htll r hr),(RR.atI_last (xs:=cl r) (by rw[zap];exact hp)).trans (b:=(cl r)[(cl r).length-1]?) rfl |>.trans ?_,k8⟩;rw[zap,Ah,Ad (by rw[zap];lia)];rfl
    obtain⟨o3',o4'⟩:=one (λr=>⟨#[(cl r).getD (r.length-1) 0]⟩) (λr=>r.length-1) λr hr=>⟨rfl,by have:=(hpos r hr).1;lia⟩
    refine⟨q8,_,_,_,rfl,SqL.of e8,.str _,zd2 _,by simp[A0,BX,BW,C6],zc8 o3',_,rfl,?_⟩;rw[zf1,o4',anyc _ _ drops];have s48:=s46.trans (s7.trans s8);rw[CN]at hti
    by_cases hD:(tl.any λr=>decide (35∈(cl r).drop (r.length-1)))=true
    rotate_left
    .have hD:=AN.mpr hD;rw[hD]at hti ⊢;refine iteT ?_
     refine⟨_,rfl,pw,_,rfl,.inl (SqL.of ((s7.trans s8) _ _ e16)),two,λt ht=>?_⟩;rw[hwl];exact back hti _ t _ rfl s48 ht
    rw[hD]at hti ⊢;refine iteF ?_
    exact kg n m H8 (bgood h2 hn hm hj5 hti) s48
theorem zc2{l y:Int}{r:List Nat}{c:Cell}:∀n,c∈rowC l y r n ↔ ∃j,j<n/\r.getD j 0=35/\c=(l+(j:Int),y)
 | 0=>⟨λh=>(by cases h),λ⟨j,h,_⟩=>absurd h (Nat.not_lt_zero _)⟩
 |n+1=>by
  unfold rowC;rw[List.mem_append,zc2 n];constructor
  .rintro (⟨j,h1,h2,h3⟩ |h)
   .exact⟨j,by lia,h2,h3⟩
   .split at h
    .rename_i h35
     exact⟨n,by lia,h35,Av.mp h⟩
    .cases h
  .rintro⟨j,h1,h2,h3⟩
   by_cases hj:j=n
   .subst hj;rw[if_pos h2];exact .inr (Av.mpr h3)
   .exact .inl ⟨j,by lia,h2,h3⟩
theorem zb4{l lo:Int}{rows:List Str}{c:Cell}:∀n,c∈zaG l lo rows n ↔ ∃up,up<n/\∃j,j<(rowAt rows (rows.length-1-up)).length/\(cl (rowAt rows (rows.length-1-up))).getD j 0=35/\c=(l+(j:Int),lo+(up:Int))
 | 0=>⟨λh=>(by cases h),λ⟨j,h,_⟩=>absurd h (Nat.not_lt_zero _)⟩
 |n+1=>by
  unfold zaG;rw[List.mem_append,zb4 n,zc2];constructor
  .rintro (⟨up,h1,h2⟩ |h)
   .exact⟨up,by lia,h2⟩
   .exact⟨n,by lia,h⟩
  .rintro⟨up,h1,h2⟩
   by_cases hj:up=n
   .subst hj;exact .inr h2
   .exact .inl ⟨up,by lia,h2⟩
theorem zgN{l y:Int}{r:List Nat}:∀n,(rowC l y r n).Pairwise Bfr
 | 0=>.nil
 |n+1=>by
  unfold rowC;refine Do.mpr ⟨zgN n,?_,λa ha b hb=>?_⟩
  .split
   .exact List.pairwise_singleton _ _
   .exact .nil
  .obtain⟨j,h1,_,rfl⟩:=(zc2 n).mp ha;split at hb
   .rw[Av.mp hb];exact zhs (by lia)
   .cases hb
theorem ze1{l lo:Int}{rows:List Str}:∀n,(zaG l lo rows n).Pairwise Bfr
 | 0=>.nil
 |n+1=>by
  unfold zaG;refine Do.mpr ⟨ze1 n,zgN _,λa ha b hb=>ziF ?_⟩;obtain⟨up,h1,j,_,_,rfl⟩:=(zb4 n).mp ha;obtain⟨j',_,_,rfl⟩:=(zc2 _).mp hb;show lo+(up:Int)<lo+(n:Int);lia
theorem zdJ{l y:Int}{r:List Nat}:∀n,n<=r.length->(rowC l y r n).length=(r.take n).count 35
 | 0,_=>rfl
 |n+1,h=>by
  unfold rowC;rw[At,zdJ n (by lia),List.take_succ,List.count_append,Ah,Ad (by lia)]
  congr 1
  show (if r[n]=35 then _ else _:List Cell).length=[r[n]].count 35
  by_cases h35:r[n]=35
  .rw[if_pos h35,h35];rfl
  .rw[if_neg h35,List.count_cons_of_ne (λz=>h35 z)];rfl
theorem zdV{l lo:Int}{rows:List Str}:∀n,n<=rows.length-1->(zaG l lo rows n).length+cum rows (rows.length-1-n)=cum rows (rows.length-1)
 | 0,_=>by show 0+_=_;rw[Nat.zero_add,Nat.sub_zero]
 |n+1,h=>by
  have ih:=zdV (l:=l) (lo:=lo) (rows:=rows) n (by lia);rw[<- ih];show (zaG l lo rows n++rowC l (lo+n) (cl (rowAt rows (rows.length-1-n))) (rowAt rows (rows.length-1-n)).length).length+_=_;rw[At,zdJ _ (by rw[zap];exact Ai _),AL (by rw[zap];exact Ai _)]
  have e:cum rows (rows.length-1-n)=cum rows (rows.length-1-(n+1))+hc (rowAt rows (rows.length-1-n)):=by
   have:rows.length-1-n=(rows.length-1-(n+1))+1:=by lia
   rw[this];rfl
  rw[e];unfold hc;lia
theorem zew{rows:List Str}(h1:1<=rows.length)(h:zbv (rows.drop 1)=true):2<=rows.length/\35∈cl (rowAt rows 1)/\35∈cl (rowAt rows (rows.length-1))/\(∃i,1<=i/\i<rows.length/\35∈(cl (rowAt rows i)).take 1)/\∃i,1<=i/\i<rows.length/\35∈(cl (rowAt rows i)).drop ((rowAt rows i).length-1):=by
 unfold zbv at h;simp only[AX,decide_eq_true_iff,Bool.not_eq_true']at h;obtain⟨a,b,c,e,f⟩:=h
 have h2:2<=rows.length:=by
  by_cases q:2<=rows.length
  .exact q
  .rw[show rows.drop 1=[] from Bf (by lia)]at a
   cases a
 have get:∀i,rowAt (rows.drop 1) i=rowAt rows (1+i):=λi=>by unfold rowAt;rw[Ah,Ah,A9]
 rw[get]at b;rw[get,AC,show 1+(rows.length-1-1)=rows.length-1 by lia]at c
 have ex:∀(p:Str->Bool),(rows.drop 1).any p=true->∃i,1<=i/\i<rows.length/\p (rowAt rows i)=true:=λp hp=>by obtain⟨r,hr,hpr⟩:=List.any_eq_true.mp hp;obtain⟨i,hi⟩:=CP.mp hr;rw[A9]at hi;have hil:=(Aj.mp hi).1;refine⟨1+i,by lia,hil,?_⟩;unfold rowAt;rw[Ah,hi];exact hpr
 obtain⟨i,i1,i2,i3⟩:=ex _ e;obtain⟨j,j1,j2,j3⟩:=ex _ f;exact⟨h2,b,c,⟨i,i1,i2,of_decide_eq_true i3⟩,⟨j,j1,j2,of_decide_eq_true j3⟩⟩
theorem zgk{rows:List Str}{i:Nat}(h:badR rows i=false):(rowAt rows i).length=(rowAt rows 1).length/\(rowAt rows i).length<=60/\(cl (rowAt rows i)).count 35+(cl (rowAt rows i)).count 46=(cl (rowAt rows i)).length/\i<=60/\cum rows i<=120:=by unfold badR zcn at h;simp only[C0,Dm,AX,decide_eq_true_iff,decide_eq_false_iff_not]at h;lia
theorem zfN{y:Str}{n:Int}(h:numIn y=some n):n.natAbs<10 ^ 30/\tS n=y:=by
 unfold numIn at h;split at h
 .rename_i hk
  injection h with h;unfold zcv at hk;simp only[AX,decide_eq_true_iff,Bool.or_eq_true]at hk;obtain⟨a,b,c,e⟩:=hk;have h0:figOf (cl y)≠[]:=by simpa using a
  have hd:=zft.mp b;refine⟨?_,?_⟩
  .rw[<- h];unfold figOf at h0 hd c;unfold zby
   by_cases hh:(cl y).head?=some 45
   .rw[if_pos hh]at hd c ⊢;have:=zes _ _ rfl hd;have:=Cp (n:=10) (by decide) c;lia
   .rw[if_neg hh]at hd c ⊢;have:=zes _ _ rfl hd;have:=Cp (n:=10) (by decide) c;lia
  .rw[<- h];exact (zep h0 hd).mpr e
 .cases h
theorem zhI{C:Cell->Bool}{l y:Int}{r:Str}(hs:(cl r).count 35+(cl r).count 46=(cl r).length)(hC:∀j,j<r.length->C (l+(j:Int),y)=decide ((cl r).getD j 0=35)):lineS C l r.length y=r:=by
 refine ze0 ?_
 unfold lineS;rw[show (Bt "" ((A3 r.length).map λk:Nat=>signS (C (l+k,y))))=Bt (Aa "") ((A3 r.length).map λk:Nat=>signS (C (l+k,y))) from rfl,zfX,List.map_map]
 have e:((A3 r.length).map (cl ∘ λk:Nat=>signS (C (l+k,y))))=(cl r).map λc=>[c]:=by
  refine List.ext_getElem (by rw[Ae,Ae,A2,zap]) λj h1 h2=>?_
  rw[Ae,A2]at h1;rw[List.getElem_map,List.getElem_map,List.getElem_range];show cl (signS (C (l+(j:Int),y)))=_;have hj:j<(cl r).length:=by rw[zap];exact h1
  have hg:(cl r).getD j 0=(cl r)[j]'hj:=by rw[Ah,Ad hj];rfl
  rw[hC j h1,hg];show cl (signS (decide ((cl r)[j]'hj=35)))=[(cl r)[j]'hj];have ha:=zco (cl r);rw[decide_eq_true hs,List.all_map,List.all_eq_true]at ha;have:=of_decide_eq_true (ha _ (Bz hj));generalize (cl r)[j]'hj=c at this;rw[show cl (Aa "#.")=[35,46] by decide +kernel]at this;rcases Ax.mp this with z |z
  .rw[z];decide +kernel
  .rw[Av.mp z];decide +kernel
 rw[e]
 induction cl r with
 |nil=>rfl
 |cons a s ih=>rw[AZ,Cn,ih];rfl
theorem zhj{x:Str}{n m:Int}(h:GoodT x n m):∃(w hh:Nat) (c0 c1:Cell), InOrd (za1 x n m) /\ (za1 x n m).length <= 120 /\ (∀c ∈ za1 x n m, CellM c) /\ za1 x n m ≠ [] /\ (za1 x n m)[0]? = some c0 /\ (za1 x n m)[(za1 x n m).length-1]? = some c1 /\
  IsMin ((za1 x n m).map Prod.fst) n/\IsMax ((za1 x n m).map Prod.fst) (n+w-1)/\c0.2=m/\c1.2=m+hh-1/\0<w/\w<=60/\0<hh/\hh<=60/\drawS (isIn (za1 x n m)) n m w hh=x:=by
 obtain⟨g2,gn,gm,gj,gt⟩:=h;have hx:=BH x nlT;have hW1:=zbI x nlT;unfold za1;have hx2:=BH (rowAt (Af x nlT) 0) spT;generalize Af x nlT=rows at *;obtain⟨h2,fA,fB,⟨i,i1,i2,i3⟩,⟨k,k1,k2,k3⟩⟩:=zew hW1 gt;have bf:=λj (h1:1<=j) (h2:j<rows.length)=>zgk (gj j h1 h2)
 obtain⟨wa,wb,hab⟩:∃a b,Af (rowAt rows 0) spT=[a,b]:=by
  match Af (rowAt rows 0) spT,g2 with
  |[a,b],_=>exact⟨a,b,rfl⟩
 rw[hab]at gn gm hx2;obtain⟨nn,nw⟩:=zfN (show numIn wa=some n from gn);obtain⟨mn,mw⟩:=zfN (show numIn wb=some m from gm)
 have mem:∀up j:Nat,(n+(j:Int),m+(up:Int))∈zaG n m rows (rows.length-1) ↔ up<rows.length-1/\j<(rowAt rows 1).length/\(cl (rowAt rows (rows.length-1-up))).getD j 0=35:=λup j=>by
  rw[zb4];constructor
  .rintro⟨u,u1,v,v1,v2,v3⟩;have e1:n+(j:Int)=n+(v:Int):=congrArg Prod.fst v3;have e2:m+(up:Int)=m+(u:Int):=congrArg Prod.snd v3;obtain rfl:j=v:=by lia
   obtain rfl:up=u:=by lia
   exact⟨u1,by rw[<- (bf (rows.length-1-up) (by lia) (by lia)).1];exact v1,v2⟩
  .rintro⟨u1,v1,v2⟩;exact⟨up,u1,j,by rw[(bf (rows.length-1-up) (by lia) (by lia)).1];exact v1,v2,rfl⟩
 have all:∀c∈zaG n m rows (rows.length-1),n<=c.1/\c.1<n+(rowAt rows 1).length/\m<=c.2/\c.2<m+((rows.length-1:Nat):Int):=λc hc=>by
  obtain⟨u,u1,v,v1,_,rfl⟩:=(zb4 _).mp hc;rw[(bf (rows.length-1-u) (by lia) (by lia)).1]at v1;refine⟨?_,?_,?_,?_⟩
  .show n<=n+(v:Int);lia
  .show n+(v:Int)<_;lia
  .show m<=m+(u:Int);lia
  .show m+(u:Int)<_;lia
 have idx:∀r:Str,35∈cl r->∃j,j<r.length/\(cl r).getD j 0=35:=λr hr=>by obtain⟨j,hj⟩:=CP.mp hr;have:=(Aj.mp hj).1;rw[zap]at this;exact⟨j,this,by rw[Ah,hj];rfl⟩
 have ho:InOrd (zaG n m rows (rows.length-1)):=zit (ze1 _);obtain⟨jA,jA1,jA2⟩:=idx _ fA;obtain⟨jB,jB1,jB2⟩:=idx _ fB;have bB:=bf (rows.length-1) (by lia) (by lia);have hwp:0<(rowAt rows 1).length:=by lia
 have top:(n+(jA:Int),m+((rows.length-1-1:Nat):Int))∈zaG n m rows (rows.length-1):=(mem _ _).mpr ⟨by lia,jA1,by rw[show rows.length-1-(rows.length-1-1)=1 by lia];exact jA2⟩;have bot:(n+(jB:Int),m+((0:Nat):Int))∈zaG n m rows (rows.length-1):=(mem _ _).mpr ⟨by lia,by rw[<- bB.1];exact jB1,jB2⟩;have hne:zaG n m rows (rows.length-1)≠[]:=List.ne_nil_of_mem top;have hcl:0<(zaG n m rows (rows.length-1)).length:=B6.mpr hne
 have lft:(n+((0:Nat):Int),m+((rows.length-1-i:Nat):Int))∈zaG n m rows (rows.length-1):=(mem _ _).mpr ⟨by lia,hwp,by
  rw[show rows.length-1-(rows.length-1-i)=i by lia]
  cases q:cl (rowAt rows i) with
  |nil=>rw[q]at i3;cases i3
  |cons a s =>
   rw[q]at i3;exact (Av.mp i3).symm⟩
 have rgt:(n+(((rowAt rows 1).length-1:Nat):Int),m+((rows.length-1-k:Nat):Int))∈zaG n m rows (rows.length-1):=(mem _ _).mpr ⟨by lia,by lia,by
  rw[show rows.length-1-(rows.length-1-k)=k by lia];have bk:=bf k k1 k2;rw[<- bk.1];have hlt:(rowAt rows k).length-1<(cl (rowAt rows k)).length:=by rw[zap,bk.1];lia
  rw[BP hlt,Bf (by rw[zap];lia)]at k3;rw[Ah,Ad hlt];exact (Av.mp k3).symm⟩
 have c0e:=Ad hcl;have c1e:=Ad (l:=zaG n m rows (rows.length-1)) (i:=(zaG n m rows (rows.length-1)).length-1) (by lia)
 have ends:=zd5 ho c0e c1e;have m0:=all _ (Bz hcl);have m1:=all _ (Bz (l:=zaG n m rows (rows.length-1)) (n:=(zaG n m rows (rows.length-1)).length-1) (by lia));refine⟨(rowAt rows 1).length,rows.length-1,_,_,ho,?_,?_,hne,c0e,c1e,⟨AO.mpr ⟨_,lft,by show n+((0:Nat):Int)=n;lia⟩,λz hz=>?_⟩,⟨AO.mpr ⟨_,rgt,by show n+(((rowAt rows 1).length-1:Nat):Int)=_;lia⟩,λz hz=>?_⟩,?_,?_,hwp,?_,by lia,?_,?_⟩
 .have:=zdV (l:=n) (lo:=m) (rows:=rows) (rows.length-1) (Ai _);have:=bB.2.2.2.2;lia
 .intro c hc;have:=all c hc;have:=(bf 1 (by lia) (by lia)).2.1;have:=bB.2.2.2.1;have e30:(10:Nat) ^ 30=1000000000000000000000000000000:=rfl;have e31:(10:Int) ^ 31=10000000000000000000000000000000:=rfl;rw[e30]at nn mn;unfold CellM NearI;rw[e31];lia
 .obtain⟨c,hc,rfl⟩:=AO.mp hz;exact (all c hc).1
 .obtain⟨c,hc,rfl⟩:=AO.mp hz;have:=(all c hc).2.1;lia
 .have:_<=m+((0:Nat):Int):=(ends _ bot).1;lia
 .have:m+((rows.length-1-1:Nat):Int)<=_:=(ends _ top).2;lia
 .exact (bf 1 (by lia) (by lia)).2.1
 .exact bB.2.2.2.1
 .unfold drawS;rw[<- hx,zfS];show Str.join nlT _=_
  congr 1
  have r0:rowAt rows 0=tS n++Aa " " ++ tS m:=by rw[nw,mw,<- hx2];rfl
  refine List.ext_getElem (by rw[AD,Ae,A2];lia) λj h1 h2=>?_
  have hrj:rows[j]=rowAt rows j:=by unfold rowAt;rw[Ah,Ad h2];rfl
  rw[hrj]
  match j,h1,h2 with
  | 0,_,_=>exact r0.symm
  |j+1,h1,h2 =>
   rw[List.getElem_cons_succ,List.getElem_map,List.getElem_range];have bj:=bf (j+1) (by lia) h2;rw[<- bj.1];refine zhI bj.2.2.1 λv hv=>?_
   unfold isIn;rw[show m+((rows.length-1:Nat):Int)-1-(j:Int)=m+((rows.length-1-(j+1):Nat):Int) by lia];refine decide_eq_decide.mpr ((mem _ _).trans ?_);rw[show rows.length-1-(rows.length-1-(j+1))=j+1 by lia,<- bj.1];exact⟨λz=>z.2.2,λz=>⟨by lia,hv,z⟩⟩
theorem zjp{x:Str}{r c r' c':Nat}(h:BadT x r c)(h':BadT x r' c'):r=r'/\c=c':=by
 cases h with
 |place a =>
  cases h' with
  |place b=>rw[a]at b;cases b;exact⟨rfl,rfl⟩
  |row b=>rw[a]at b;cases b
  |tight b=>rw[a]at b;cases b
 |row a a1 a2 a3 a4 =>
  cases h' with
  |place b=>rw[a]at b;cases b
  |row b b1 b2 b3 b4 =>
   refine⟨?_,rfl⟩;rcases Nat.lt_trichotomy r r' with q |q |q
   .have:=b4 r a1 q;rw[a3]at this;cases this
   .exact q
   .have:=a4 r' b1 q;rw[b3]at this;cases this
  |tight b b1 b2=>have:=b1 r a1 a2;rw[a3]at this;cases this
 |tight a a1 a2 =>
  cases h' with
  |place b=>rw[a]at b;cases b
  |row b b1 b2 b3 b4=>have:=a1 r' b1 b2;rw[b3]at this;cases this
  |tight b b1 b2=>exact⟨rfl,rfl⟩
theorem zf0{x:Str}{r c:Nat}{l lo:Int}(h:BadT x r c)(g:GoodT x l lo):False:=by
 have hb:=zdq g.two g.n0 g.n1
 cases h with
 |place a=>rw[hb]at a;cases a
 |row a a1 a2 a3 a4=>have:=g.rows r a1 a2;rw[a3]at this;cases this
 |tight a a1 a2=>rw[g.tight]at a2;cases a2
theorem zh1{x:Str}{l lo l' lo':Int}(g:GoodT x l lo)(g':GoodT x l' lo'):l=l'/\lo=lo':=by
 have a:=g.n0.symm.trans g'.n0;have b:=g.n1.symm.trans g'.n1
 cases a;cases b
 exact⟨rfl,rfl⟩
noncomputable def tot(ys:List Str):Nat:=(ys.map λy=>y.length+1).sum
theorem zbc(y:Str)(r:List Str):tot (y::r)=y.length+1+tot r:=by unfold tot;rw[AZ,List.sum_cons]
theorem zbH(a b:List Str):tot (a++b)=tot a+tot b:=by unfold tot;rw[Ak,List.sum_append]
theorem zb1(k:Nat)(ys:List Str):tot (ys.take k)+tot (ys.drop k)=tot ys:=by rw[<- zbH,List.take_append_drop]
theorem zff(ys:List Str):(ys.map Str.length).sum+ys.length=tot ys:=by
 induction ys with
 |nil=>rfl
 |cons y r ih =>
  rw[zbc,<- ih,AZ,List.sum_cons,AD];lia
theorem zbP{c:Nat}(ys:List Str):(Bt ⟨#[c]⟩ ys).length<=tot ys:=by have:=zfP ⟨#[c]⟩ ys;rw[<- zff];have e:(⟨#[c]⟩:Str).length=1:=rfl;rw[e]at this;lia
theorem zeQ{c:Nat}:∀ys:List Str,ys≠[]->(Str.join ⟨#[c]⟩ ys).length+1=tot ys
 |[],h=>absurd rfl h
 |[x],_=>by rw[zbc];rfl
 |x::y::r,_=>by
  have ih:=zeQ (c:=c) (y::r) (λz=>nomatch z);rw[zbc,<- ih];show (x++⟨#[c]⟩++Str.join ⟨#[c]⟩ (y::r)).length+1=_;rw[zaz,zaz];have e:(⟨#[c]⟩:Str).length=1:=rfl;rw[e];lia
theorem zez(x:Str)(c:Nat):tot (Af x ⟨#[c]⟩)=x.length+1:=by have h:=zeQ (c:=c) (Af x ⟨#[c]⟩) (λz=>by have:=zbI x ⟨#[c]⟩;rw[z]at this;exact absurd this (by decide));rw[BH]at h;exact h.symm
theorem zgu{ys:List Str}{y:Str}(h:y∈ys):y.length+1<=tot ys:=by
 induction ys with
 |nil=>cases h
 |cons a r ih =>
  rw[zbc];rcases Ax.mp h with rfl |h
  .lia
  .have:=ih h;lia
theorem zc4(ys:List Str):ys.length<=tot ys:=by rw[<- zff];lia
theorem ziG{α:Type}{xs:List α}{z:Int}(h0:0<=z)(h:z<xs.length):∃v,atI xs z=some v/\v∈xs:=by
 obtain⟨n,rfl⟩:=Cy h0;have hn:n<xs.length:=by lia
 exact⟨xs[n],zas (Ad hn),Bz _⟩
theorem zbX(us:List V)(k:Nat):cutV us none (some (k:Int))=us.take k:=by
 have e:cutV us none (some (k:Int))=us.take (min k us.length):=by unfold cutV;rw[HT.sIx_nat,HT.sIx_none,CY,Nat.sub_zero]
 rw[e];rcases B8 k us.length with h |h
 .rw[Nat.min_eq_left (by lia)]
 .rw[Nat.min_eq_right h,AL (Ai _),AL h]
theorem zcG{sep:Str}(hs:sep.length=1){ys:List Str}(h:tot ys<=16777216):(ys.map Str.length).sum+ys.length*sep.length<=16777216:=by rw[hs,Nat.mul_one,zff];exact h
theorem zgO(v:V)(k:Nat):(Ay k [v]).flatten=Ay k v:=by
 induction k with
 |zero=>rfl
 |succ k ih=>rw[BB,Cn,ih];rfl
theorem zgt(y:Str)(k:Nat):tot (Ay k y)=k*(y.length+1):=by
 induction k with
 |zero=>rw[Nat.zero_mul];rfl
 |succ k ih=>rw[BB,zbc,ih,Nat.succ_mul];lia
section
variable {K:W.Frag}
theorem zj3{D:Ends}{H:Hp}{L at_ he:Nat}{n4:Int}{rows ys:List Str}{p1 q8:Addr}{o0 o1 o2 o4 o6 o7 o10 o12 o13 o14:Option V}(hl:L <= 50000)(htr:tot rows=L + 1)(hW1 : 1 <= rows.length)(e1:H p1=some (.lst (rows.map V.str)))(e8:H q8=some (.lst (ys.map V.str)))(hys:ys.length=8)(hyb:∀y ∈ ys, y.length <= 13 * L + 200)(z4 : 0 <= n4)
  (k:∀(y:Str) H',y.length<=13*L+200->(∀b o,b≠q8->H b=some o->H' b=some o)->D.rt (.str y) H') :
  tSeq (tAsg (tOp rRep (tLst (tCons (tOp (λx y H Q=>∃(a:Str) (n:Int),x=V.str a/\y=V.int n/\0<=n/\a.length*n.toNat<=sizeLine/\n<2 ^ 62/\Q (V.str (zaZ a n.toNat)) H) (tC (V.str (Aa "#"))) (tCB (λxs H Q=>∃z:Str,xs=[V.str z]/\z.length<=sizeLine/\Q (V.int ((z.length:Nat):Int)) H) (tCons (tOp (rIxL K) (tVar 8) (tUn (rU λi=>V.int (-i)) (tC (V.int 1)))) tNil))) tNil)) (tOp (rI0 λi j=>V.int (i+j)) (tC (V.int 1)) (tOp (rI (λx j=>0<j) λi j=>V.int (i % j)) (tVar 3) (tC (V.int 12))))) (gName 15)) (tSeq (tDrop (tBM K "list" zbq (tVar 11) (tCons (tBM K "str" rJoin (tC (V.str (Aa "\n"))) (tCons (tOp rCat (tOp rCat (tSl (rSlL K) (tVar 8) zav (tPart (tOp (rI0 λi j=>V.int (i+j)) (tVar 9) (tC (V.int 1))))) (tVar 15)) (tSl (rSlL K) (tVar 8) (tPart (tOp (rI0 λi j=>V.int (i+j)) (tVar 9) (tC (V.int 1)))) zav)) tNil)) tNil))) (tRet (tOp (rIxL K) (tVar 11) (tOp (rI (λx j=>0<j) λi j=>V.int (i % j)) (tVar 5) (tC (V.int 9)))))) D [o0,o1,o2,some (.int (at_:Int)),o4,some (.int n4),o6,o7,some (.ref p1),some (.int (he:Int)),o10,some (.ref q8),o12,o13,o14,none] H:=by
 have hwl:(rows.map V.str).length=rows.length:=Ae _;have hrl:=zc4 rows;have g9:=zaT (rows:=rows) (i:=rows.length-1) (by lia);have g9l:=zgu g9.2;generalize rowAt rows (rows.length-1)=lw at g9 g9l;refine⟨_,rfl,1,rfl,p1,_,_,_,rfl,rfl,SqL.of e1,(RR.atI_last (by rw[hwl];lia)).trans (by rw[hwl];exact g9.1),lw,rfl,zal (by lia),_,_,rfl,rfl,(by lia),zal (by rw[BY,show (Aa "#").length=1 by decide +kernel];lia),(by lia),(by show 1<=sizeLine;decide),λu1 hu1=>?_⟩;rw[BY];have hfl:(zaZ (Aa "#") lw.length).length=lw.length:=by rw[L2.times_len,show (Aa "#").length=1 by decide +kernel,Nat.one_mul]
 generalize zaZ (Aa "#") lw.length=fw at hfl;generalize hgu1:upd H u1 _=G1;have su1:Same H G1:=hgu1 ▸ Same.up hu1;have eu1:=(congrFun hgu1 u1).symm.trans zaa;clear hgu1;have hk12:=BG (at_:Int) (show (0:Int)<12 by decide);have hk0:=BE (at_:Int) (show (12:Int)≠0 by decide);refine⟨_,rfl,_,_,rfl,rfl,(by show (0:Int)<12;decide),_,_,rfl,rfl,u1,_,_,rfl,rfl,eu1,(by show -(2 ^ 63)<=1+(at_:Int) % 12;lia),(by show 1+(at_:Int) % 12<2 ^ 63;lia),zal (by show 1*(1+(at_:Int) % 12).toNat<=1000000;lia),λu2 hu2=>?_⟩;rw[zgO];have hkk:(1+(at_:Int) % 12).toNat<=12:=by lia
 generalize (1+(at_:Int) % 12).toNat=kk at hkk;generalize hgu2:upd G1 u2 _=G2;have su2:Same G1 G2:=hgu2 ▸ Same.up hu2;have eu2:=(congrFun hgu2 u2).symm.trans zaa;clear hgu2;have e82:=(su1.trans su2) _ _ e8;have e12:=(su1.trans su2) _ _ e1;refine⟨_,rfl,.inl ⟨rfl,_,SqL.of e82⟩,rfl,_,rfl,_,rfl,_,_,rfl,rfl,_,rfl,p1,_,rfl,SqL.of e12,λu3 hu3=>?_⟩;rw[show ((he:Int)+1)=((he+1:Nat):Int) from rfl,zbX,<- List.map_take];generalize hgu3:upd G2 u3 _=G3;have su3:Same G2 G3:=hgu3 ▸ Same.up hu3;have eu3:=(congrFun hgu3 u3).symm.trans zaa;clear hgu3;refine⟨_,rfl,u3,u2,_,_,rfl,rfl,eu3,su3 _ _ eu2,zal (by simp only[Ae,AJ,List.length_replicate];lia),λu4 hu4=>?_⟩;generalize hgu4:upd G3 u4 _=G4;have su4:Same G3 G4:=hgu4 ▸ Same.up hu4;have eu4:=(congrFun hgu4 u4).symm.trans zaa;clear hgu4;refine⟨_,rfl,_,rfl,_,_,rfl,rfl,_,rfl,p1,_,rfl,SqL.of ((su3.trans su4) _ _ e12),λu5 hu5=>?_⟩;rw[show ((he:Int)+1)=((he+1:Nat):Int) from rfl,zbu,<- Cr];generalize hgu5:upd G4 u5 _=G5;have su5:Same G4 G5:=hgu5 ▸ Same.up hu5;have eu5:=(congrFun hgu5 u5).symm.trans zaa;clear hgu5;refine⟨u4,u5,_,_,rfl,rfl,su5 _ _ eu4,eu5,zal (by simp only[At,Ae,AJ,AC,List.length_replicate];lia),λu6 hu6=>?_⟩;generalize hgu6:upd G5 u6 _=G6;have su6:Same G5 G6:=hgu6 ▸ Same.up hu6;have eu6:=(congrFun hgu6 u6).symm.trans zaa;clear hgu6;have tt:=zb1 (he+1) rows
 have tj:tot ((rows.take (he+1)++Ay kk fw)++rows.drop (he+1))<=13*L+13:=by rw[zbH,zbH,zgt,hfl];have:kk*(lw.length+1)<=12*(L+1):=Nat.mul_le_mul hkk (by lia);lia
 refine⟨Aa "\n",u6,(rows.take (he+1)++Ay kk fw)++rows.drop (he+1),rfl,rfl,(by rw[Ak,Ak,List.map_replicate];exact eu6),zcG rfl (by lia),?_⟩;have hj9:(Bt (Aa "\n") ((rows.take (he+1)++Ay kk fw)++rows.drop (he+1))).length<=13*L+13:=AK (zbP (c:=10) _) tj;generalize Bt (Aa "\n") ((rows.take (he+1)++Ay kk fw)++rows.drop (he+1))=j9 at hj9;have S6:=su1.trans (su2.trans (su3.trans (su4.trans (su5.trans su6))));refine⟨q8,_,_,rfl,rfl,S6 _ _ e8,A6 (m:=100) (by rw[Ae];lia) (by decide),?_⟩;obtain⟨v,hv,hvm⟩:=ziG (xs:=(ys++[j9]).map V.str) (z:=n4 % 9) (BE n4 (by decide)) (by have:=BG n4 (show (0:Int)<9 by decide);rw[Ae,At,hys];show n4 % 9<((8+1:Nat):Int);lia);obtain⟨y,hy,rfl⟩:=AO.mp hvm;refine⟨_,rfl,_,rfl,_,_,rfl,rfl,(by show (0:Int)<9;decide),q8,_,_,_,rfl,rfl,SqL.of zaa,(by rw[<- List.map_singleton (f:=V.str) (a:=j9),<- Ak];exact hv),k y _ ?_ λb o hb hbo=>?_⟩
 .rcases B0.mp hy with h |h
  .exact hyb y h
  .rw[Av.mp h];lia
 .rw[zam hb];exact S6 _ _ hbo
end
section
variable {K:W.Frag}
theorem zj4{D:Ends}{H:Hp}{L at_ he mm:Nat}{n3 n4:Int}{rows ys:List Str}{tf:Str}{p1 q8:Addr}{o0 o1 o2 o6 o7 o10 o12:Option V}(hl:L <= 50000)(htr:tot rows=L + 1)(hW1 : 1 <= rows.length)(e1:H p1=some (.lst (rows.map V.str)))(e8:H q8=some (.lst (ys.map V.str)))(hne:p1 ≠ q8)(hys:ys.length=6)(hyb:∀y ∈ ys, y.length <= 13 * L + 200)(htf:tf.length <= (rowAt rows 0).length + 33)(mm1 : 59 <= mm)(mm2:mm <= 62)(z3 : 0 <= n3)(z4 : 0 <= n4)
  (k:∀(y:Str) H',y.length<=13*L+200->(∀b o,b≠q8->H b=some o->H' b=some o)->D.rt (.str y) H') :
  tSeq (tDrop (tBM K "list" zbq (tVar 11) (tCons (tBM K "str" rJoin (tC (V.str (Aa "\n"))) (tCons (tOp rCat (tLst (tCons (tVar 13) tNil)) (tSl (rSlL K) (tVar 8) (tPart (tC (V.int 1))) zav)) tNil)) tNil))) (tSeq (tDrop (tBM K "list" zbq (tVar 11) (tCons (tOp (λx y H Q=>∃a b:Str,x=V.str a/\y=V.str b/\a.length+b.length<=sizeLine/\Q (V.str (a++b)) H) (tC (V.str (Aa "0 0\n"))) (tOp (rIxL K) (tLst (tCons (tOp (λx y H Q=>∃a b:Str,x=V.str a/\y=V.str b/\a.length+b.length<=sizeLine/\Q (V.str (a++b)) H) (tOp (λx y H Q=>∃a b:Str,x=V.str a/\y=V.str b/\a.length+b.length<=sizeLine/\Q (V.str (a++b)) H) (tC (V.str (Aa "#"))) (tOp (λx y H Q=>∃(a:Str) (n:Int),x=V.str a/\y=V.int n/\0<=n/\a.length*n.toNat<=sizeLine/\n<2 ^ 62/\Q (V.str (zaZ a n.toNat)) H) (tC (V.str (Aa "."))) (tOp (rI0 λi j=>V.int (i-j)) (tVar 14) (tC (V.int 2))))) (tC (V.str (Aa "#")))) (tCons (tBM K "str" rJoin (tC (V.str (Aa "\n"))) (tCons (tOp rRep (tLst (tCons (tC (V.str (Aa "#"))) tNil)) (tVar 14)) tNil)) tNil))) (tOp (rI (λx j=>0<j) λi j=>V.int (i % j)) (tOp (rI CDiv λi j=>V.int (i / j)) (tVar 4) (tC (V.int 4))) (tC (V.int 2))))) tNil))) (tSeq (tAsg (tOp rRep (tLst (tCons (tOp (λx y H Q=>∃(a:Str) (n:Int),x=V.str a/\y=V.int n/\0<=n/\a.length*n.toNat<=sizeLine/\n<2 ^ 62/\Q (V.str (zaZ a n.toNat)) H) (tC (V.str (Aa "#"))) (tCB (λxs H Q=>∃z:Str,xs=[V.str z]/\z.length<=sizeLine/\Q (V.int ((z.length:Nat):Int)) H) (tCons (tOp (rIxL K) (tVar 8) (tUn (rU λi=>V.int (-i)) (tC (V.int 1)))) tNil))) tNil)) (tOp (rI0 λi j=>V.int (i+j)) (tC (V.int 1)) (tOp (rI (λx j=>0<j) λi j=>V.int (i % j)) (tVar 3) (tC (V.int 12))))) (gName 15)) (tSeq (tDrop (tBM K "list" zbq (tVar 11) (tCons (tBM K "str" rJoin (tC (V.str (Aa "\n"))) (tCons (tOp rCat (tOp rCat (tSl (rSlL K) (tVar 8) zav (tPart (tOp (rI0 λi j=>V.int (i+j)) (tVar 9) (tC (V.int 1))))) (tVar 15)) (tSl (rSlL K) (tVar 8) (tPart (tOp (rI0 λi j=>V.int (i+j)) (tVar 9) (tC (V.int 1)))) zav)) tNil)) tNil))) (tRet (tOp (rIxL K) (tVar 11) (tOp (rI (λx j=>0<j) λi j=>V.int (i % j)) (tVar 5) (tC (V.int 9)))))))) D [o0,o1,o2,some (.int (at_:Int)),some (.int n3),some (.int n4),o6,o7,some (.ref p1),some (.int (he:Int)),o10,some (.ref q8),o12,some (.str tf),some (.int (mm:Int)),none] H:=by
 have hwl:(rows.map V.str).length=rows.length:=Ae _;have hrl:=zc4 rows;refine⟨_,rfl,.inl ⟨rfl,_,SqL.of e8⟩,rfl,_,rfl,(by show 1<=sizeLine;decide),λu1 hu1=>?_⟩;generalize hgu1:upd H u1 _=G1;have su1:Same H G1:=hgu1 ▸ Same.up hu1;have eu1:=(congrFun hgu1 u1).symm.trans zaa;clear hgu1;refine⟨_,rfl,1,rfl,p1,_,rfl,SqL.of (su1 _ _ e1),λu2 hu2=>?_⟩;rw[show cutV (rows.map V.str) (some 1) none=(rows.drop 1).map V.str by rw[show (1:Int)=((1:Nat):Int) from rfl,zbu,Cr]];generalize hgu2:upd G1 u2 _=G2;have su2:Same G1 G2:=hgu2 ▸ Same.up hu2;have eu2:=(congrFun hgu2 u2).symm.trans zaa;clear hgu2;refine⟨u1,u2,_,_,rfl,rfl,su2 _ _ eu1,eu2,zal (by simp only[Ae,AC,AD,Bv];lia),λu3 hu3=>?_⟩;generalize hgu3:upd G2 u3 _=G3;have su3:Same G2 G3:=hgu3 ▸ Same.up hu3;have eu3:=(congrFun hgu3 u3).symm.trans zaa;clear hgu3
 have t0:tot rows=(rowAt rows 0).length+1+tot (rows.drop 1):=by
  cases rows with
  |nil=>exact absurd hW1 (by decide)
  |cons r tl=>exact zbc r tl
 have tj:tot ([tf]++rows.drop 1)<=L+34:=by rw[zbH,zbc];have:tot ([]:List Str)=0:=rfl;lia
 refine⟨Aa "\n",u3,[tf]++rows.drop 1,rfl,rfl,(by rw[Ak];exact eu3),zcG rfl (by lia),?_⟩;have hj7:(Bt (Aa "\n") ([tf]++rows.drop 1)).length<=L+34:=AK (zbP (c:=10) _) tj;generalize Bt (Aa "\n") ([tf]++rows.drop 1)=j7 at hj7;have S3:=su1.trans (su2.trans su3);refine⟨q8,_,_,rfl,rfl,S3 _ _ e8,A6 (m:=100) (by rw[Ae];lia) (by decide),?_⟩;rw[show ys.map V.str++[V.str j7]=(ys++[j7]).map V.str by rw[Ak];rfl];have but1:∀b o,b≠q8->H b=some o->upd G3 q8 (.lst ((ys++[j7]).map V.str)) b=some o:=λb o hb hbo=>by rw[zam hb];exact S3 _ _ hbo
 have eB:upd G3 q8 (.lst ((ys++[j7]).map V.str)) q8=some (.lst ((ys++[j7]).map V.str)):=zaa;generalize upd G3 q8 (.lst ((ys++[j7]).map V.str))=B1 at but1 eB;have one:∀s:String,s = "#" ∨ s = "." -> (Aa s).length=1:=λs hs=>by rcases hs with rfl |rfl <;> decide +kernel
 have hdl:(zaZ (Aa ".") ((mm:Int)-2).toNat).length=mm-2:=by rw[L2.times_len,one "." (.inr rfl),Nat.one_mul];lia
 refine⟨_,rfl,.inl ⟨rfl,_,SqL.of eB⟩,_,rfl,_,_,rfl,rfl,_,_,rfl,rfl,(by lia),zal (by rw[one "." (.inr rfl)];lia),(by lia),_,_,rfl,rfl,zal (by rw[hdl,one "#" (.inl rfl)];lia),_,_,rfl,rfl,zal (by rw[zaz,hdl,one "#" (.inl rfl)];lia),rfl,(by show 1<=sizeLine;decide),λu4 hu4=>?_⟩;have hAl:(Aa "#" ++ zaZ (Aa ".") ((mm:Int)-2).toNat++Aa "#").length<=62:=by rw[zaz,zaz,hdl,one "#" (.inl rfl)];lia
 generalize Aa "#" ++ zaZ (Aa ".") ((mm:Int)-2).toNat++Aa "#" = wA at hAl;generalize hgu4:upd B1 u4 _=G4;have su4:Same B1 G4:=hgu4 ▸ Same.up hu4;have eu4:=(congrFun hgu4 u4).symm.trans zaa;clear hgu4;refine⟨_,rfl,u4,_,_,rfl,rfl,eu4,(by lia),(by lia),zal (by show 1*((mm:Int)).toNat<=1000000;lia),λu5 hu5=>?_⟩;rw[zgO,BY];generalize hgu5:upd G4 u5 _=G5;have su5:Same G4 G5:=hgu5 ▸ Same.up hu5;have eu5:=(congrFun hgu5 u5).symm.trans zaa;clear hgu5
 have tr:tot (Ay mm (Aa "#"))<=124:=by rw[zgt,one "#" (.inl rfl)];lia
 refine⟨Aa "\n",u5,Ay mm (Aa "#"),rfl,rfl,(by rw[List.map_replicate];exact eu5),zcG rfl (by lia),?_⟩;have hBl:(Bt (Aa "\n") (Ay mm (Aa "#"))).length<=124:=AK (zbP (c:=10) _) tr;generalize Bt (Aa "\n") (Ay mm (Aa "#"))=wB at hBl;refine⟨(by show 2<=sizeLine;decide),λu6 hu6=>?_⟩;generalize hgu6:upd G5 u6 _=G6;have su6:Same G5 G6:=hgu6 ▸ Same.up hu6;have eu6:=(congrFun hgu6 u6).symm.trans zaa;clear hgu6
 have hix:∃wz:Str,atI [V.str wA,V.str wB] (n3 / 4 % 2)=some (.str wz)/\wz.length<=124:=by
  have:n3 / 4 % 2=0∨n3 / 4 % 2=1:=by lia
  rcases this with h |h <;> rw[h]
  .exact⟨wA,rfl,by lia⟩
  .exact⟨wB,rfl,hBl⟩
 obtain⟨wz,hwz,hwzl⟩:=hix;have h00:(Aa "0 0\n").length=4:=by decide +kernel
 have S6:=su4.trans (su5.trans su6);refine⟨_,rfl,_,_,rfl,rfl,⟨by decide,by decide⟩,_,_,rfl,rfl,(by show (0:Int)<2;decide),u6,_,_,_,rfl,rfl,SqL.of eu6,hwz,_,_,rfl,rfl,zal (by rw[h00];lia),q8,_,_,rfl,rfl,S6 _ _ eB,A6 (m:=100) (by rw[Ae,At,hys];show 7<=100;decide) (by decide),?_⟩;have h8l:(Aa "0 0\n" ++ wz).length<=128:=by rw[zaz,h00];lia
 generalize Aa "0 0\n" ++ wz=j8 at h8l;rw[show (ys++[j7]).map V.str++[V.str j8]=(ys++[j7]++[j8]).map V.str by rw[Ak (l₂:=[j8])];rfl];refine zj3 hl htr hW1 (by rw[zam hne];exact S6 _ _ (but1 _ _ hne e1)) zaa (by rw[At,At,hys];rfl) (λy hy=>?_) z4 λy H' hyl hb=>k y H' hyl λb o hbq hbo=>hb b o hbq (by rw[zam hbq];exact S6 _ _ (but1 _ _ hbq hbo))
 rcases B0.mp hy with h |h
 .rcases B0.mp h with h |h
  .exact hyb y h
  .rw[Av.mp h];lia
 .rw[Av.mp h];lia
end
section
variable {K:W.Frag}
theorem zj5{D:Ends}{H:Hp}{L at_ he mm:Nat}{n3 n4:Int}{rows ys:List Str}{tf:Str}{p1 p10:Addr}{o0 o1 o2 o6 o7 o10 o12:Option V}(hl:L <= 50000)(htr:tot rows=L + 1)(hW1 : 1 <= rows.length)(e1:H p1=some (.lst (rows.map V.str)))(e10:H p10=some (.lst (ys.map V.str)))(hys:ys.length=4)(hyb:∀y ∈ ys, y.length <= 13 * L + 200)(htf:tf.length <= (rowAt rows 0).length + 33)(mm1 : 59 <= mm)(mm2:mm <= 62)(z3 : 0 <= n3)(z4 : 0 <= n4)
  (k:∀(y:Str) H',y.length<=13*L+200->Same H H'->D.rt (.str y) H') :
  tSeq (tAsg (tOp rCat (tVar 11) (tLst (tCons (tBM K "str" rJoin (tC (V.str (Aa "\n"))) (tCons (tOp rCat (tSl (rSlL K) (tVar 8) zav (tPart (tVar 9))) (tSl (rSlL K) (tVar 8) (tPart (tOp (rI0 λi j=>V.int (i+j)) (tVar 9) (tC (V.int 1)))) zav)) tNil)) (tCons (tBM K "str" rJoin (tC (V.str (Aa "\n"))) (tCons (tOp rCat (tSl (rSlL K) (tVar 8) zav (tPart (tOp (rI0 λi j=>V.int (i+j)) (tVar 9) (tC (V.int 1))))) (tSl (rSlL K) (tVar 8) (tPart (tVar 9)) zav)) tNil)) tNil)))) (gName 11)) (tSeq (tDrop (tBM K "list" zbq (tVar 11) (tCons (tBM K "str" rJoin (tC (V.str (Aa "\n"))) (tCons (tOp rCat (tLst (tCons (tVar 13) tNil)) (tSl (rSlL K) (tVar 8) (tPart (tC (V.int 1))) zav)) tNil)) tNil))) (tSeq (tDrop (tBM K "list" zbq (tVar 11) (tCons (tOp (λx y H Q=>∃a b:Str,x=V.str a/\y=V.str b/\a.length+b.length<=sizeLine/\Q (V.str (a++b)) H) (tC (V.str (Aa "0 0\n"))) (tOp (rIxL K) (tLst (tCons (tOp (λx y H Q=>∃a b:Str,x=V.str a/\y=V.str b/\a.length+b.length<=sizeLine/\Q (V.str (a++b)) H) (tOp (λx y H Q=>∃a b:Str,x=V.str a/\y=V.str b/\a.length+b.length<=sizeLine/\Q (V.str (a++b)) H) (tC (V.str (Aa "#"))) (tOp (λx y H Q=>∃(a:Str) (n:Int),x=V.str a/\y=V.int n/\0<=n/\a.length*n.toNat<=sizeLine/\n<2 ^ 62/\Q (V.str (zaZ a n.toNat)) H) (tC (V.str (Aa "."))) (tOp (rI0 λi j=>V.int (i-j)) (tVar 14) (tC (V.int 2))))) (tC (V.str (Aa "#")))) (tCons (tBM K "str" rJoin (tC (V.str (Aa "\n"))) (tCons (tOp rRep (tLst (tCons (tC (V.str (Aa "#"))) tNil)) (tVar 14)) tNil)) tNil))) (tOp (rI (λx j=>0<j) λi j=>V.int (i % j)) (tOp (rI CDiv λi j=>V.int (i / j)) (tVar 4) (tC (V.int 4))) (tC (V.int 2))))) tNil))) (tSeq (tAsg (tOp rRep (tLst (tCons (tOp (λx y H Q=>∃(a:Str) (n:Int),x=V.str a/\y=V.int n/\0<=n/\a.length*n.toNat<=sizeLine/\n<2 ^ 62/\Q (V.str (zaZ a n.toNat)) H) (tC (V.str (Aa "#"))) (tCB (λxs H Q=>∃z:Str,xs=[V.str z]/\z.length<=sizeLine/\Q (V.int ((z.length:Nat):Int)) H) (tCons (tOp (rIxL K) (tVar 8) (tUn (rU λi=>V.int (-i)) (tC (V.int 1)))) tNil))) tNil)) (tOp (rI0 λi j=>V.int (i+j)) (tC (V.int 1)) (tOp (rI (λx j=>0<j) λi j=>V.int (i % j)) (tVar 3) (tC (V.int 12))))) (gName 15)) (tSeq (tDrop (tBM K "list" zbq (tVar 11) (tCons (tBM K "str" rJoin (tC (V.str (Aa "\n"))) (tCons (tOp rCat (tOp rCat (tSl (rSlL K) (tVar 8) zav (tPart (tOp (rI0 λi j=>V.int (i+j)) (tVar 9) (tC (V.int 1))))) (tVar 15)) (tSl (rSlL K) (tVar 8) (tPart (tOp (rI0 λi j=>V.int (i+j)) (tVar 9) (tC (V.int 1)))) zav)) tNil)) tNil))) (tRet (tOp (rIxL K) (tVar 11) (tOp (rI (λx j=>0<j) λi j=>V.int (i % j)) (tVar 5) (tC (V.int 9))))))))) D [o0,o1,o2,some (.int (at_:Int)),some (.int n3),some (.int n4),o6,o7,some (.ref p1),some (.int (he:Int)),o10,some (.ref p10),o12,some (.str tf),some (.int (mm:Int)),none] H:=by
 have hwl:(rows.map V.str).length=rows.length:=Ae _;have hrl:=zc4 rows;refine⟨_,rfl,rfl,_,rfl,_,rfl,_,rfl,p1,_,rfl,SqL.of e1,λu1 hu1=>?_⟩;rw[zbX,<- List.map_take];generalize hgu1:upd H u1 _=G1;have su1:Same H G1:=hgu1 ▸ Same.up hu1;have eu1:=(congrFun hgu1 u1).symm.trans zaa;clear hgu1;refine⟨_,rfl,_,rfl,_,_,rfl,rfl,_,rfl,p1,_,rfl,SqL.of (su1 _ _ e1),λu2 hu2=>?_⟩;rw[show ((he:Int)+1)=((he+1:Nat):Int) from rfl,zbu,<- Cr];generalize hgu2:upd G1 u2 _=G2;have su2:Same G1 G2:=hgu2 ▸ Same.up hu2;have eu2:=(congrFun hgu2 u2).symm.trans zaa;clear hgu2;refine⟨u1,u2,_,_,rfl,rfl,su2 _ _ eu1,eu2,zal (by simp only[Ae,AJ,AC];lia),λu3 hu3=>?_⟩;generalize hgu3:upd G2 u3 _=G3;have su3:Same G2 G3:=hgu3 ▸ Same.up hu3;have eu3:=(congrFun hgu3 u3).symm.trans zaa;clear hgu3;have tw:=zb1 he rows;have tv:=zb1 (he+1) rows
 have tx:tot (rows.drop (he+1))<=tot (rows.drop he):=by have:=zb1 1 (rows.drop he);rw[List.drop_drop]at this;lia
 have t4:tot (rows.take he++rows.drop (he+1))<=L+1:=by rw[zbH];lia
 have t5:tot (rows.take (he+1)++rows.drop he)<=2*L+2:=by rw[zbH];lia
 refine⟨Aa "\n",u3,rows.take he++rows.drop (he+1),rfl,rfl,(by rw[Ak];exact eu3),zcG rfl (by lia),?_⟩;have hj4:(Bt (Aa "\n") (rows.take he++rows.drop (he+1))).length<=L+1:=AK (zbP (c:=10) _) t4;generalize Bt (Aa "\n") (rows.take he++rows.drop (he+1))=j4 at hj4;have S3:=su1.trans (su2.trans su3);refine⟨rfl,_,rfl,_,rfl,_,_,rfl,rfl,_,rfl,p1,_,rfl,SqL.of (S3 _ _ e1),λu4 hu4=>?_⟩;rw[show ((he:Int)+1)=((he+1:Nat):Int) from rfl,zbX,<- List.map_take];generalize hgu4:upd G3 u4 _=G4;have su4:Same G3 G4:=hgu4 ▸ Same.up hu4;have eu4:=(congrFun hgu4 u4).symm.trans zaa;clear hgu4;refine⟨_,rfl,_,rfl,_,rfl,p1,_,rfl,SqL.of (su4 _ _ (S3 _ _ e1)),λu5 hu5=>?_⟩;rw[zbu,<- Cr];generalize hgu5:upd G4 u5 _=G5;have su5:Same G4 G5:=hgu5 ▸ Same.up hu5;have eu5:=(congrFun hgu5 u5).symm.trans zaa;clear hgu5;refine⟨u4,u5,_,_,rfl,rfl,su5 _ _ eu4,eu5,zal (by simp only[Ae,AJ,AC];lia),λu6 hu6=>?_⟩;generalize hgu6:upd G5 u6 _=G6;have su6:Same G5 G6:=hgu6 ▸ Same.up hu6;have eu6:=(congrFun hgu6 u6).symm.trans zaa;clear hgu6;refine⟨Aa "\n",u6,rows.take (he+1)++rows.drop he,rfl,rfl,(by rw[Ak];exact eu6),zcG rfl (by lia),?_⟩;have hj5:(Bt (Aa "\n") (rows.take (he+1)++rows.drop he)).length<=2*L+2:=AK (zbP (c:=10) _) t5;generalize Bt (Aa "\n") (rows.take (he+1)++rows.drop he)=j5 at hj5;refine⟨(by show 2<=sizeLine;decide),λu7 hu7=>?_⟩;generalize hgu7:upd G6 u7 _=G7;have su7:Same G6 G7:=hgu7 ▸ Same.up hu7;have eu7:=(congrFun hgu7 u7).symm.trans zaa;clear hgu7;have S7:=S3.trans (su4.trans (su5.trans (su6.trans su7)));refine⟨p10,u7,_,_,rfl,rfl,S7 _ _ e10,eu7,zal (by rw[Ae,hys];show 4+2<=1000000;decide),λu8 hu8=>?_⟩;rw[show ys.map V.str++[V.str j4,V.str j5]=(ys++[j4,j5]).map V.str by rw[Ak];rfl];have s8:Same G7 (upd G7 u8 (.lst ((ys++[j4,j5]).map V.str))):=Same.up hu8;have S8:=S7.trans s8
 have hn8:p1≠u8:=λz=>by
  have:=S7 _ _ e1;rw[z,hu8]at this
  cases this
 refine zj4 hl htr hW1 (S8 _ _ e1) zaa hn8 (by rw[At,hys];rfl) (λy hy=>?_) htf mm1 mm2 z3 z4 λy H' hyl hb=>k y H' hyl λb o hbo=>?_
 .rcases B0.mp hy with h |h
  .exact hyb y h
  .rcases Ax.mp h with h |h
   .rw[h];lia
   .rw[Av.mp h];lia
 .have hbo7:=S7 _ _ hbo;exact hb b o (λz=>by rw[z,hu8]at hbo7;cases hbo7) (s8 _ _ hbo7)
end
theorem zeu{A:Prop}{D:St->Hp->Prop}(C:St->Hp->Prop)(g:(∀ σ H1,D σ H1->C σ H1)->A)(h:∀ σ H1,D σ H1->C σ H1):A:=g h
structure ExcN (K:W.Frag) (mg:Str->Option Value) (c_NoText c_NoRound c_RimError:Addr):Prop where
 mX:mg "NoText" = some (.ref c_NoText)
 mN:mg "NoRound" = some (.ref c_NoRound)
 mR:mg "RimError" = some (.ref c_RimError)
 cT:ExcC K c_NoText
 na:zcV K c_NoText "row"
 nb:zcV K c_NoText "word"
 xT:W.exmOne K (.ref c_NoText) (.ref c_NoText)=some true
 kR:W.kitOne K (.ref c_NoText) (.ref c_RimError)=some true
 kV:W.kitOne K (.ref c_NoText) (.type "ValueError")=some true
theorem zhW{C:Cell->Bool}{l lo:Int}{n h:Nat}(hl:NearI l)(ho:NearI lo)(hn:n<=60)(hh:h<=60):(drawS C l lo n h).length<=3800:=by
 unfold drawS;refine AK (zbP (c:=10) _) ?_
 rw[zbc,zaz,zaz];have h1:=zdQ hl;have h2:=zdQ ho;have h3:(Aa " ").length=1:=by decide +kernel
 have h4:∀k,tot ((A3 k).map λk:Nat=>lineS C l n (lo+h-1-k))<=61*k:=λk=>by
  induction k with
  |zero=>exact Ai _
  |succ k ih =>
   rw[Cm,Ak,zbH,List.map_singleton,zbc];have:=zeh C l n (lo+h-1-k);have e:tot ([]:List Str)=0:=rfl;lia
 have:=h4 h;have:61*h<=61*60:=Nat.mul_le_mul_left 61 hh;lia
noncomputable def zgE(K:W.Frag):Sp:=λvs H Q _=>∃(x:Str) (a:Addr) (n1 n2 n3 n4:Int),vs=[.str x,.ref a]/\x.length<=50000/\SqL K H a [.int n1,.int n2,.int n3,.int n4]/\(0<=n2/\0<=n3/\0<=n4)/\(n3<2 ^ 62/\n4<2 ^ 62)/\∀(y:Str) H',y.length<=13*x.length+200->Same H H'->Q (.str y) H'
noncomputable def spLaw(K:W.Frag):Sp:=λvs H Q _=>∃(a:Addr) (ns:List Int),vs=[.ref a]/\SqL K H a (ns.map V.int)/\ns.length<=63/\∀H',Q (.bl true) H'
theorem VR.take{α:Type}{vs:List V}{l:List α}{R:α->V->Hp->Prop}{H:Hp}(h:VR vs l R H)(j:Nat):VR (vs.take j) (l.take j) R H:=by
 refine⟨by rw[AJ,AJ,h.1],λi x v h1 h2=>?_⟩;rw[List.getElem?_take]at h1 h2;split at h1
 .rw[if_pos (by assumption)]at h2;exact h.2 _ x v h1 h2
 .cases h1
theorem ziw:∀{ns:List Int},ns≠[]->∃l,IsMin ns l
 |[],h=>absurd rfl h
 |[n],_=>⟨n,Av.mpr rfl,λz hz=>by rw[Av.mp hz];exact Co _⟩
 |n::k::r,_=>by
  obtain⟨l,h1,h2⟩:=ziw (ns:=k::r) (λz=>nomatch z)
  by_cases h:n<=l
  .exact⟨n,A4,λz hz=>by rcases Ax.mp hz with rfl |hz;exact Co _;exact Int.le_trans h (h2 z hz)⟩
  .exact⟨l,AH _ h1,λz hz=>by rcases Ax.mp hz with rfl |hz;lia;exact h2 z hz⟩
theorem zix:∀{ns:List Int},ns≠[]->∃l,IsMax ns l
 |[],h=>absurd rfl h
 |[n],_=>⟨n,Av.mpr rfl,λz hz=>by rw[Av.mp hz];exact Co _⟩
 |n::k::r,_=>by
  obtain⟨l,h1,h2⟩:=zix (ns:=k::r) (λz=>nomatch z)
  by_cases h:l<=n
  .exact⟨n,A4,λz hz=>by rcases Ax.mp hz with rfl |hz;exact Co _;exact Int.le_trans (h2 z hz) h⟩
  .exact⟨l,AH _ h1,λz hz=>by rcases Ax.mp hz with rfl |hz;lia;exact h2 z hz⟩
theorem passF{X:Cx}:zcU (CX1 X.prog X.w) X (λ_ _ _=>False):=by rintro ps σ H s e s' I ⟨a,H',B,o,vs,q1,q2,q3,q4,q5,q6,q7,h⟩;exact h.elim
theorem zjS (T:Txt P w K mg){c_NoText c_NoRound c_RimError c_TooWide:Addr}(X:ExcN K mg c_NoText c_NoRound c_RimError) (g__law_cell_at:Fn P w K mg base 1 "_law_cell_at" ["_law_script", "_law_k"] (zdX K)) (g__law_row:Fn P w K mg base 1 "_law_row" ["_law_cell", "_law_many", "_law_base"] spRow)
  (g__law_picture:Fn P w K mg base 2 "_law_picture" ["_law_script","_law_start"] (zig K)) (g__law_drawn:Fn P w K mg base 2 "_law_drawn" ["_law_cells_here"] (zfC K)) (g__law_bent:Fn P w K mg base 1 "_law_bent" ["_law_text","_law_draws"] (zgE K)) (g__law_bad:Fn P w K mg base 2 "_law_bad" ["_law_text"] zii)
  (g__law_cells:Fn P w K mg base 1 "_law_cells" ["_law_text"] (zfD K)) (g_read_drawn:FnX P w K mg base 5 "read_drawn" ["text"] (zgA K c_NoText)) (g_show_drawn:FnX P w K mg base 3 "show_drawn" ["picture"] (zgz K c_TooWide)) (d:Df K mg "law" s_law ["_law_script"]):FnOk P w K mg base CX0 8 d.f d.fd ["_law_script"] (spLaw K):=by
 have m_NoText:=X.mX;have m_NoRound:=X.mN;have m_RimError:=X.mR;refine d.F.ok zbF (λvs H Q E h=>?_) (λcdv A outer s H vs Q E hr h=>?_)
 .obtain⟨a,ns,rfl,_⟩:=h;rfl
 .obtain⟨a,ns,rfl,hS,hns,k⟩:=h;have hu64:=hr.units
  let ex:St->XK:=λσ c o H'=>c=.ref c_NoText/\∃(x:Str) (r w':Nat) (dx:Addr) (H1:Hp) (o2 o3 o4 o5:Option V) (t:Addr) (pd:Addr) ,σ=[some (.ref a),some (.str x),o2,some (.ref t),some (.ref pd),o5,none]/\x≠Aa "" /\ o=some dx/\BadT x r w'/\H1 t=some (.tup [.int (r:Int),.int (w':Int)])/\H1 dx=none/\H'=upd H1 dx (ntO r w' dx)
  refine⟨_,(zac (sE 1 zbF.nd (pC g__law_drawn hr (zaf (zau za7 (pC g__law_picture hr (pa_N (pv 0) (pa_C zad zab))) zaE (zaD zad)) zab)))
   (zac (zbG Bx rfl (zbi (by rfl) T.nrange (pa_C zad zab)) (nG 2 zbF.nd)
   (zag (sE 1 zbF.nd (pC g__law_bent hr (pa_N (pv 1) (zaf (pC g__law_row hr (zaf (pC g__law_cell_at hr (pa_N (pv 0) (pa_N (pv 2) zab))) (pa_C zad (pa_C zad zab)))) zab))))))
   (zac (sE 3 zbF.nd zcP)
   (zac (sE 4 zbF.nd (za0 zab))
   (zac (ps_if (zar op_ne (pv 1) zai (zaw _))
   (zag (sE 3 zbF.nd (pC g__law_bad hr (pa_N (pv 1) zab))))
   zaH)
   (zac (ps_if (zjJ (zar ziv (pv 3) zcP (zaw _)) (ziX (zar op_ne (pv 1) zai (zaw _)))).pt
   (zag (sE 4 zbF.nd (pC g__law_cells hr (pa_N (pv 1) zab))))
   zaH)
   (zac (sE 5 zbF.nd zcP)
   (zac (zhM (E:=ex) (i:=6) rfl rfl rfl (λpins=>(zag (sE 5 zbF.nd (za4 (pa_C zai (zaf (pCXS g_read_drawn hr zjQ (pa_N (pv 1) zab)) zab))))))
   (λa=>(zag (sE 5 zbF.nd (za4 (pa_C zai (zaf (zdd (zah (zdp (K:=K)) (by rfl) T.nisinstance (by rfl) (pa_N (pv 6) (pa_N (zbD (v:=.ref c_RimError) (by rfl) m_RimError rfl) zab))) (zdL (zah (zdp (K:=K)) (by rfl) T.nisinstance (by rfl) (pa_N (pv 6) (pa_N (zfk (v:=.ty "ValueError") (by rfl) T.nValueError (by rfl) rfl) zab))))) (zaf (zfL (K:=K) (pv 6)) (zaf (zfL (K:=K) (pv 6)) zab))))))))
   (λa=>(zag (sE 5 zbF.nd (za4 (pa_C zai zab))))) (by rfl) m_NoText (by rfl) m_NoRound zbF.nd (by rfl) (by rfl))
   (zac (ps_if (zar zi7 (pv 3) zcP (zaw _))
   (zag (zay (zdd (za5 (zg1 hu64) (pv 5) (pe_op zi8 (za4 (pa_C zai (pa_C pe_bl zab))) (pv 3)) (zaw _)) (zdd (zio (zah zfZ (by rfl) T.nisinstance (by rfl) (zaf (pe_ix zcb (pv 5) zad (λ_ _=>rfl)) (pa_N (zfk (v:=.ty "bool") (by rfl) T.nbool (by rfl) rfl) zab)))) (zdL (zio (zah zfZ (by rfl) T.nisinstance (by rfl) (zaf (pe_ix zcb (pv 5) zad (λ_ _=>rfl)) (pa_N (zfk (v:=.ty "bool") (by rfl) T.nbool (by rfl) rfl) zab)))))))))
   zaH)
   (zag (zay (zdd (za5 (zg1 hu64) (pv 5) (za4 (pa_C zai (pa_N (pv 4) zab))) (zaw _)) (zdL (za5 op_eq (pCX g_show_drawn hr passF (pa_N (pv 4) zab)) (pv 1) (zaw _))))))))))))))),?_⟩
  refine⟨_,rfl,a,ns,2,rfl,hS,λp H1 vs cs hp s1 e1 hv hpw hcl ⟨x0,y0,hbox⟩ hB=>⟨_,rfl,p,vs,rfl,SqL.of e1,λp2 hp2=>?_⟩⟩;rw[show cutV vs none (some 118)=vs.take 118 from zbX vs 118];generalize hg2:upd H1 p2 _=H2;have s2:Same H1 H2:=hg2 ▸ Same.up hp2;have e2:=(congrFun hg2 p2).symm.trans zaa;clear hg2;have hv2:VR (vs.take 118) (cs.take 118) cR H2:=(show VR vs cs cR H2 from hv.mono λx v h=>h.same s2).take 118;have hsub:(cs.take 118).Sublist cs:=List.take_sublist 118 cs;have ho:InOrd (cs.take 118):=zit (hpw.sublist hsub)
  have hM:∀c∈cs.take 118,CellM c:=λc hc=>by obtain⟨⟨a1,a2⟩,b1,b2⟩:=hB c (hsub.subset hc);have e30:((10:Int) ^ 30)=1000000000000000000000000000000:=rfl;have e31:((10:Int) ^ 31)=10000000000000000000000000000000:=rfl;rw[e30]at a1 a2 b1 b2;unfold CellM NearI;rw[e31];lia
  have s12:=s1.trans s2;have hσ:L2.start N_law [V.ref a]=[some (.ref a),none,none,none,none,none,none]:=rfl;rw[hσ];refine zeu (D:=λσ H3=>∃x:Str,σ=[some (.ref a),some (.str x),none,none,none,none,none]/\x.length<=3800/\Same H H3) ?C2 (λshare=>?g2) ?h2
  case g2 =>
   refine⟨p2,cs.take 118,rfl,LR.of e2 hv2,ho,(by rw[AJ];lia),hM,λhz H3 s3=>?_,λhz=>?_⟩
   .simp only[zaA,AF,AG];generalize hs0:([some (V.ref a),some (V.str (Aa "")),none,none,none,none,none]:St)=σ0;exact share σ0 H3 ⟨_,hs0.symm,(by decide +kernel),s12.trans s3⟩
   .have hcl0:0<(cs.take 118).length:=B6.mpr hz;have hm0:(cs.take 118).map Prod.fst≠[]:=λz=>hz (List.map_eq_nil_iff.mp z)
    obtain⟨l,hl⟩:=ziw hm0;obtain⟨r,hr2⟩:=zix hm0;have c0e:=Ad hcl0;have c1e:=Ad (l:=cs.take 118) (i:=(cs.take 118).length-1) (by lia)
    have m0:=Bz hcl0;have m1:=Bz (l:=cs.take 118) (n:=(cs.take 118).length-1) (by lia);generalize (cs.take 118)[0]=d0 at c0e m0;generalize (cs.take 118)[(cs.take 118).length-1]=d1 at c1e m1;obtain⟨cl0,hcl1,hcl2⟩:=AO.mp hl.1;obtain⟨cr0,hcr1,hcr2⟩:=AO.mp hr2.1;have b0:=hbox _ (hsub.subset m0);have b1:=hbox _ (hsub.subset m1);have b2:=hbox _ (hsub.subset hcl1);have b3:=hbox _ (hsub.subset hcr1);have n0:=hM _ m0;have n2:=hM _ hcl1;refine⟨d0,d1,l,r,c0e,c1e,hl,hr2,by lia,by lia,λH3 s3=>?_⟩;have hlen:=zhW (C:=isIn (cs.take 118)) (l:=l) (lo:=d0.2) (n:=(r-l+1).toNat) (h:=(d1.2-d0.2+1).toNat) (hcl2 ▸ n2.1) n0.2 (by lia) (by lia);generalize drawS (isIn (cs.take 118)) l d0.2 (r-l+1).toNat (d1.2-d0.2+1).toNat=x at hlen;simp only[zaA,AF,AG];generalize hs0:([some (V.ref a),some (V.str x),none,none,none,none,none]:St)=σ0;exact share σ0 H3 ⟨_,hs0.symm,hlen,s12.trans s3⟩
  case h2 =>
   rintro σ H3 ⟨x,rfl,hx,s3⟩;refine⟨2,rfl,by decide,by decide,?_⟩
   refine zaJ (lo:=0) (n:=2) (λi σ H4=>∃(x:Str) (o2:Option V),σ=[some (.ref a),some (.str x),o2,none,none,none,none]/\Same H H4/\x.length<=(if i=0 then 3800 else if i=1 then 49600 else 645000))
    ⟨x,_,rfl,s3,hx⟩ ?_ ?_
   .rintro i σ H4 hi ⟨x,o2,rfl,s4,hx⟩;simp only[zaA,AF,AG];rw[BM]
    have hx5:x.length<=50000:=by
     match i,hi,hx with
     | 0,_,hx=>exact AK hx (by decide)
     | 1,_,hx=>exact AK hx (by decide)
    refine⟨_,rfl,_,rfl,_,rfl,a,ns,i,rfl,s4.seq hS,λc0=>⟨c0,5040,4,rfl,by decide,by decide,by decide,λq H5 ms hq s5 e5 hml hmb=>?_⟩⟩
    obtain⟨m0,m1,m2,m3,rfl⟩:∃x y z u,ms=[x,y,z,u]:=by
     match ms,hml with
     |[x,y,z,u],_=>exact⟨x,y,z,u,rfl⟩
    have b1:=hmb m1 (by simp);have b2:=hmb m2 (by simp);have b3:=hmb m3 (by simp);refine⟨x,q,m0,m1,m2,m3,rfl,hx5,SqL.of e5,⟨b1.1,b2.1,b3.1⟩,⟨by lia,by lia⟩,λy H6 hy s6=>⟨y,_,rfl,s4.trans (s5.trans s6),?_⟩⟩
    match i,hi,hx with
    | 0,_,hx =>
     have hx:x.length<=3800:=hx;show y.length<=49600;lia
    | 1,_,hx =>
     have hx:x.length<=49600:=hx;show y.length<=645000;lia
   .rintro σ H4 ⟨x,o2,rfl,s4,hx⟩;have hx:x.length<=645000:=hx;refine⟨A1 _,λpd hpd=>?_⟩;generalize hg5:upd H4 pd _=H5;have s5:Same H4 H5:=hg5 ▸ Same.up hpd;have e5:=(congrFun hg5 pd).symm.trans zaa;clear hg5;have s05:=s4.trans s5;refine⟨_,rfl,rfl,_,rfl,?_⟩
    refine zeu (D:=λσ H6=>∃(x:Str) (o2:Option V) (v3:V) (p4:Addr),σ=[some (.ref a),some (.str x),o2,some v3,some (.ref p4),none,none]/\x.length<=645000 /\
     ((x=Aa "" /\ v3=.non/\H6 p4=some (.lst []))∨(x≠Aa "" /\ ∃r c t,v3=.ref t/\BadT x r c/\H6 t=some (.tup [.int ((r:Nat):Int),.int ((c:Nat):Int)]))∨(x≠Aa "" /\ v3=.non/\∃l lo ws,GoodT x l lo/\H6 p4=some (.lst ws)/\VR ws (za1 x l lo) cR H6))) ?C3 (λshare3=>?g3) ?h3
    case g3 =>
     by_cases hx0:x=Aa ""
     .rw[decide_eq_true (congrArg V.str hx0)];refine iteF ?_
      refine zci ?_
      refine⟨_,rfl,rfl,_,rfl,iteT ⟨_,rfl,rfl,_,rfl,?_⟩⟩;rw[decide_eq_true (congrArg V.str hx0)];refine iteF ?_
      refine zci ?_
      simp only[zaA,AF,AG];generalize hs0:([some (V.ref a),some (V.str x),o2,some V.non,some (V.ref pd),none,none]:St)=σ0;exact share3 σ0 H5 ⟨_,_,_,_,hs0.symm,hx,.inl ⟨hx0,rfl,e5⟩⟩
     .rw[decide_eq_false (λz=>hx0 (by injection z))];refine iteT ⟨_,rfl,x,rfl,(by lia),λr c t H6 hb s6 ht et=>?_,λl lo H6 hg s6=>?_⟩
      .refine⟨_,rfl,rfl,_,rfl,iteN (by simp) ?_⟩;refine iteF ?_
       refine zci ?_
       simp only[zaA,AF,AG];generalize hs0:([some (V.ref a),some (V.str x),o2,some (V.ref t),some (V.ref pd),none,none]:St)=σ0;exact share3 σ0 H6 ⟨_,_,_,_,hs0.symm,hx,.inr (.inl ⟨hx0,r,c,t,rfl,hb,et⟩)⟩
      .refine⟨_,rfl,rfl,_,rfl,iteT ⟨_,rfl,rfl,_,rfl,?_⟩⟩;rw[decide_eq_false (λz=>hx0 (by injection z))];refine iteT ⟨_,rfl,x,l,lo,rfl,(by lia),hg,λp7 H7 ws hp7 s7 e7 hv7=>?_⟩;simp only[zaA,AF,AG];generalize hs0:([some (V.ref a),some (V.str x),o2,some V.non,some (V.ref p7),none,none]:St)=σ0;exact share3 σ0 H7 ⟨_,_,_,_,hs0.symm,hx,.inr (.inr ⟨hx0,rfl,l,lo,ws,hg,e7,hv7⟩)⟩
    case h3 =>
     rintro σ H6 ⟨x,o2,v3,p4,rfl,hx,hcase⟩;refine⟨?_,?_⟩
     .refine⟨_,rfl,x,rfl,(by lia),λhxe p6 H7 hp6 s6 e6=>⟨two,λtd htd=>?_⟩,λhne=>⟨λr c dx H7 hb s7 hdx=>?_,λl lo p6 H7 ws hg hp6 s7 e7 hv7=>⟨two,λtd htd=>?_⟩⟩⟩
      .rcases hcase with⟨_,rfl,ep⟩ |⟨h,_⟩ |⟨h,_⟩
       rotate_left
       .exact absurd hxe h
       .exact absurd hxe h
       have ep7:=s6 _ _ ep;generalize hg8:upd H7 td _=H8;have s8:Same H7 H8:=hg8 ▸ Same.up htd;have e8:=(congrFun hg8 td).symm.trans zaa;clear hg8;refine⟨_,rfl,rfl,_,rfl,iteN (by simp) ?_⟩;refine zci ?_
       refine⟨_,rfl,_,rfl,two,λt2 ht2=>?_⟩;generalize hg9:upd H8 t2 _=H9;have s9:Same H8 H9:=hg9 ▸ Same.up ht2;have e9:=(congrFun hg9 t2).symm.trans zaa;clear hg9;have e89:=s9 _ _ e8;have ep9:=(s8.trans s9) _ _ ep7;have e69:=(s8.trans s9) _ _ e6;have hok:C6 (Aa "told")=true:=by decide +kernel
       have hsh:A0 (.tuple [.str (Aa "told"),.list []])=true:=by simp[A0,BX,BC,BW,Ck,hok]
       have heq:B4 (.tuple [.str (Aa "told"),.list []]) (.tuple [.str (Aa "told"),.list []])=true:=by simp[B4,CM]
       refine⟨.tuple [.str (Aa "told"),.list []],.tuple [.str (Aa "told"),.list []],.tup (SqT.of e89) (.cons (.str _) (.cons (.lst (SqL.of e69) .nil) .nil)),.tup (SqT.of e9) (.cons (.str _) (.cons (.lst (SqL.of ep9) .nil) .nil)),hsh,hsh,?_⟩;rw[heq];refine⟨_,rfl,iteT ?_⟩;refine⟨_,rfl,p4,[],rfl,LR.of ep9 VR.nil,(λi c d h=>by simp at h),(by decide),(λc hc=>by cases hc),λ_ H' s=>⟨_,rfl,rfl,?_⟩,λc0 c1 l r h=>by simp at h⟩;rw[hxe];have:decide (V.str "" = V.str (Aa ""))=true:=decide_eq_true rfl;rw[this];exact k _
      .rcases hcase with⟨h,_⟩ |⟨_,r',c',t,rfl,hb',et⟩ |⟨_,_,l,lo,ws,hg,_⟩
       .exact absurd h hne
       .obtain⟨rfl,rfl⟩:=zjp hb' hb;exact⟨rfl,x,_,_,dx,H7,o2,none,none,_,t,p4,rfl,hne,rfl,hb,s7 _ _ et,hdx,rfl⟩
       .exact (zf0 hb hg).elim
      .rcases hcase with⟨h,_⟩ |⟨_,r',c',t,rfl,hb',et⟩ |⟨_,rfl,l',lo',ws',hg',ep4,hv4⟩
       .exact absurd h hne
       .exact (zf0 hb' hg).elim
       obtain⟨rfl,rfl⟩:=zh1 hg hg';obtain⟨w2,hh,c0,c1,hO,h120,hMM,hnn,hc0,hc1,hmin,hmax,hy0,hy1,hw0,hw60,hh0,hh60,hdr⟩:=zhj hg;have hv47:VR ws' (za1 x l lo) cR H7:=hv4.mono λx v h=>h.same s7
       have ep7:=s7 _ _ ep4;generalize za1 x l lo=cs2 at hv4 hv47 hv7 hO h120 hMM hnn hc0 hc1 hmin hmax hdr;generalize hg8:upd H7 td _=H8;have s8:Same H7 H8:=hg8 ▸ Same.up htd;have e8:=(congrFun hg8 td).symm.trans zaa;clear hg8;refine⟨_,rfl,rfl,_,rfl,iteN (by simp) ?_⟩;refine zci ?_
       refine⟨_,rfl,_,rfl,two,λt2 ht2=>?_⟩;generalize hg9:upd H8 t2 _=H9;have s9:Same H8 H9:=hg9 ▸ Same.up ht2;have e9:=(congrFun hg9 t2).symm.trans zaa;clear hg9;have s79:=s8.trans s9;have e89:=s9 _ _ e8;have ep9:=s79 _ _ ep7;have e79:=s79 _ _ e7;have hv49:VR ws' cs2 cR H9:=hv47.mono λx v h=>h.same s79
       have hv79:VR ws cs2 cR H9:=hv7.mono λx v h=>h.same s79
       have hok:C6 (Aa "told")=true:=by decide +kernel
       have hdp:=zcj (cs2.map cI)
       have hsh:A0 (.tuple [.str (Aa "told"),lT (cs2.map cI)])=true:=by simp only[A0,BX,BC,BW,Ck,lT,zbY,hok,Bool.and_true,CN,decide_eq_true_eq];lia
       have heq:B4 (.tuple [.str (Aa "told"),lT (cs2.map cI)]) (.tuple [.str (Aa "told"),lT (cs2.map cI)])=true:=by simp[B4,CM,zj2]
       refine⟨.tuple [.str (Aa "told"),lT (cs2.map cI)],.tuple [.str (Aa "told"),lT (cs2.map cI)],.tup (SqT.of e89) (.cons (.str _) (.cons (zd3 (SqL.of e79) hv79) .nil)),.tup (SqT.of e9) (.cons (.str _) (.cons (zd3 (SqL.of ep9) hv49) .nil)),hsh,hsh,?_⟩;rw[heq];refine⟨_,rfl,iteT ?_⟩
       have hone:∀{d0 d1 l2 r2},cs2[0]?=some d0->cs2[cs2.length-1]?=some d1->IsMin (cs2.map Prod.fst) l2->IsMax (cs2.map Prod.fst) r2->d0=c0/\d1=c1/\l2=l/\r2=l+w2-1:=λ{d0 d1 l2 r2} q0 q1 ql qr=>by rw[hc0]at q0;rw[hc1]at q1;injection q0 with q0;injection q1 with q1;have a1:=ql.2 _ hmin.1;have a2:=hmin.2 _ ql.1;have a3:=qr.2 _ hmax.1;have a4:=hmax.2 _ qr.1;exact⟨q0.symm,q1.symm,by lia,by lia⟩
       refine⟨_,rfl,p4,cs2,rfl,LR.of ep9 hv49,hO,h120,hMM,λz=>absurd z hnn,λd0 d1 l2 r2 q0 q1 ql qr=>⟨λ_ H' s=>⟨_,rfl,rfl,?_⟩,λz H' s=>?_⟩⟩
       .obtain⟨rfl,rfl,rfl,rfl⟩:=hone q0 q1 ql qr;rw[show (l2+(w2:Int)-1-l2+1).toNat=w2 by lia,show (d1.2-d0.2+1).toNat=hh by lia,hy0,hdr,decide_eq_true rfl];exact k _
       .obtain⟨rfl,rfl,rfl,rfl⟩:=hone q0 q1 ql qr;exact absurd ⟨by lia,by lia⟩ z
     .rintro c o H7 b σ' ⟨rfl,x',r,w',dx,H8,o2',o3',o4',o5',t,pd',rfl,hne,rfl,hbad,et,hdx,rfl⟩ hb hlen;refine⟨true,X.xT,λ_=>?_,λz=>nomatch z⟩;have s9:Same H8 (upd H8 dx (ntO r w' dx)):=Same.up hdx;have ed:upd H8 dx (ntO r w' dx) dx=some (ntO r w' dx):=zaa;generalize upd H8 dx (ntO r w' dx)=H9 at s9 ed hb;have s10:Same H9 (upd H9 b (excO b (.ref c_NoText) (some dx))):=Same.up hb;have hx10:upd H9 b (excO b (.ref c_NoText) (some dx)) b=some (excO b (.ref c_NoText) (some dx)):=zaa;have ed10:=s10 _ _ ed;have et10:=s10 _ _ (s9 _ _ et);generalize upd H9 b (excO b (.ref c_NoText) (some dx))=H10 at s10 hx10 ed10 et10;refine⟨_,rfl,b,c_NoText,dx,_,.ref c_RimError,_,true,rfl,hx10,ed10,rfl,λu z=>z,X.cT,X.kR,_,rfl,iteT ?_⟩;refine⟨_,rfl,b,c_NoText,dx,_,.ty "ValueError",_,true,rfl,hx10,ed10,rfl,λu z=>z,X.cT,X.kV,?_⟩;refine⟨_,rfl,b,c_NoText,dx,_,_,rfl,hx10,ed10,X.cT,X.na,rfl,?_⟩;refine⟨_,rfl,b,c_NoText,dx,_,_,rfl,hx10,ed10,X.cT,X.nb,rfl,?_⟩;refine⟨(by show 4<=sizeLine;decide),λtd htd=>?_⟩;generalize hg11:upd H10 td _=H11;have s11:Same H10 H11:=hg11 ▸ Same.up htd;have e11:=(congrFun hg11 td).symm.trans zaa;clear hg11;refine⟨_,rfl,rfl,_,rfl,iteY (by simp) ?_⟩;refine⟨_,rfl,two,λt2 ht2=>?_⟩;generalize hg12:upd H11 t2 _=H12;have s12':Same H11 H12:=hg12 ▸ Same.up ht2;have e12:=(congrFun hg12 t2).symm.trans zaa;clear hg12;have et12:=s12' _ _ (s11 _ _ et10);refine⟨_,rfl,t2,t,_,_,rfl,rfl,SqT.of e12,SqT.of et12,(λz=>nomatch z),(by show 2+2<=sizeLine;decide),(λz=>nomatch z),λ_ t3 ht3=>?_⟩;generalize hg13:upd H12 t3 _=H13;have s13:Same H12 H13:=hg13 ▸ Same.up ht3;have e13:=(congrFun hg13 t3).symm.trans zaa;clear hg13;have e113:=s13 _ _ (s12' _ _ e11);have hok:C6 (Aa "refused")=true:=by decide +kernel
      have hsh:A0 (.tuple [.str (Aa "refused"),.bool true,.int (r:Int),.int (w':Int)])=true:=by simp[A0,BX,BC,BW,Ck,hok]
      refine⟨.tuple [.str (Aa "refused"),.bool true,.int (r:Int),.int (w':Int)],.tuple [.str (Aa "refused"),.bool true,.int (r:Int),.int (w':Int)],.tup (SqT.of e113) (.cons (.str _) (.cons (.bl _) (.cons (.int _) (.cons (.int _) .nil)))),.tup (SqT.of e13) (.cons (.str _) (.cons (.bl _) (.cons (.int _) (.cons (.int _) .nil)))),hsh,hsh,?_⟩;have heq:B4 (.tuple [.str (Aa "refused"),.bool true,.int (r:Int),.int (w':Int)]) (.tuple [.str (Aa "refused"),.bool true,.int (r:Int),.int (w':Int)])=true:=by simp[B4,CM]
      rw[heq];refine⟨_,rfl,iteT ?_⟩;refine⟨_,rfl,td,_,2,_,rfl,rfl,SqT.of e113,rfl,.int (r:Int),"bool",_,false,rfl,.int _,rfl,_,rfl,_,rfl,iteT ?_⟩;refine⟨_,rfl,td,_,3,_,rfl,rfl,SqT.of e113,rfl,.int (w':Int),"bool",_,false,rfl,.int _,rfl,_,rfl,?_⟩;exact k _
section
variable {K:W.Frag}
theorem zht{D:Ends}{H:Hp}{x:Str}{a:Addr}{n1 n2 n3 n4:Int}(hl:x.length <= 50000)(ha:SqL K H a [.int n1, .int n2, .int n3, .int n4])(z2 : 0 <= n2)(z3 : 0 <= n3)(z4 : 0 <= n4)(b3:n3 < 2 ^ 62)(b4:n4 < 2 ^ 62)(k:∀(y:Str) H', y.length <= 13 * x.length + 200 -> Same H H' -> D.rt (.str y) H') :
  tSeq (tAsg (tVar 1) (gLst K 4 (gCons (gName 2) (gCons (gName 3) (gCons (gName 4) (gCons (gName 5) gNil)))))) (tSeq (tAsg (tC (V.str (Aa "#.#.#.\n-0123456789 abcdefghijklmnopqrstuvwxyz"))) (gName 6)) (tSeq (tAsg (tOp (λx y H Q=>∃a b:Str,x=V.str a/\y=V.str b/\a.length+b.length<=sizeLine/\Q (V.str (a++b)) H) (tVar 6) (tC (V.str (Aa "ABCDEFGHIJKLMNOPQRSTUVWXYZ!\"$&'()*+,/:;<=>?\x40[\\]^_`{|}~")))) (gName 6)) (tSeq (tAsg (tOp (rI (λx j=>0<j) λi j=>V.int (i % j)) (tVar 3) (tOp (rI0 λi j=>V.int (i+j)) (tCB (λxs H Q=>∃z:Str,xs=[V.str z]/\z.length<=sizeLine/\Q (V.int ((z.length:Nat):Int)) H) (tCons (tVar 0) tNil)) (tC (V.int 1)))) (gName 3)) (tSeq (tAsg (tOp rIxS (tVar 6) (tOp (rI (λx j=>0<j) λi j=>V.int (i % j)) (tVar 4) (tCB (λxs H Q=>∃z:Str,xs=[V.str z]/\z.length<=sizeLine/\Q (V.int ((z.length:Nat):Int)) H) (tCons (tVar 6) tNil)))) (gName 7)) (tSeq (tAsg (tBM K "str" zgQ (tVar 0) (tCons (tC (V.str (Aa "\n"))) tNil)) (gName 8)) (tSeq (tAsg (tOp (rI (λx j=>0<j) λi j=>V.int (i % j)) (tOp (rI CDiv λi j=>V.int (i / j)) (tVar 5) (tC (V.int 9))) (tCB (λxs H_1 Q=>∃(p:Addr) (ys:List V),xs=[V.ref p]/\(SqL K H_1 p ys∨SqT K H_1 p ys)/\Q (V.int ((ys.length:Nat):Int)) H_1) (tCons (tVar 8) tNil))) (gName 9)) (tSeq (tAsg (tBM K "str" zgQ (tOp (rIxL K) (tVar 8) (tC (V.int 0))) (tCons (tC (V.str (Aa " "))) tNil)) (gName 10)) (tSeq (tAsg (tLst (tCons (tC (V.str (Aa "-0"))) (tCons (tC (V.str (Aa "00"))) (tCons (tC (V.str (Aa ""))) (tCons (tOp (λx y H Q=>∃a b:Str,x=V.str a/\y=V.str b/\a.length+b.length<=sizeLine/\Q (V.str (a++b)) H) (tC (V.str (Aa "1"))) (tOp (λx y H Q=>∃a n,x=V.str a/\y=V.int n/\0<=n/\a.length*n.toNat<=sizeLine/\n<2 ^ 62/\Q (V.str (zaZ a n.toNat)) H) (tC (V.str (Aa "0"))) (tC (V.int 29)))) (tCons (tOp (λx y H Q=>∃a b:Str,x=V.str a/\y=V.str b/\a.length+b.length<=sizeLine/\Q (V.str (a++b)) H) (tC (V.str (Aa "1"))) (tOp (λx y H Q=>∃a n,x=V.str a/\y=V.int n/\0<=n/\a.length*n.toNat<=sizeLine/\n<2 ^ 62/\Q (V.str (zaZ a n.toNat)) H) (tC (V.str (Aa "0"))) (tC (V.int 30)))) (tCons (tC (V.str (Aa "+1"))) (tCons (tC (V.str (Aa "1."))) (tCons (tC (V.str (Aa "#"))) (tCons (tC (V.str (Aa "-"))) (tCons (tC (V.str (Aa "-5"))) tNil))))))))))) (gName 11)) (tSeq (tAsg (tOp (rI (λx j=>0<j) λi j=>V.int (i % j)) (tOp (rI CDiv λi j=>V.int (i / j)) (tVar 4) (tC (V.int 10))) (tCB (λxs H_1 Q=>∃(p:Addr) (ys:List V),xs=[V.ref p]/\(SqL K H_1 p ys∨SqT K H_1 p ys)/\Q (V.int ((ys.length:Nat):Int)) H_1) (tCons (tVar 10) tNil))) (gName 12)) (tSeq (tAsg (tBM K "str" rJoin (tC (V.str (Aa " "))) (tCons (tOp rCat (tOp rCat (tSl (rSlL K) (tVar 10) zav (tPart (tVar 12))) (tLst (tCons (tOp (rIxL K) (tVar 11) (tOp (rI (λx j=>0<j) λi j=>V.int (i % j)) (tVar 4) (tC (V.int 10)))) tNil))) (tSl (rSlL K) (tVar 10) (tPart (tOp (rI0 λi j=>V.int (i+j)) (tVar 12) (tC (V.int 1)))) zav)) tNil)) (gName 13)) (tSeq (tAsg (tOp (rIxL K) (tLst (tCons (tC (V.int 60)) (tCons (tC (V.int 61)) (tCons (tC (V.int 62)) (tCons (tC (V.int 59)) tNil))))) (tOp (rI (λx j=>0<j) λi j=>V.int (i % j)) (tVar 4) (tC (V.int 4)))) (gName 14)) (tSeq (tAsg (tLst (tCons (tVar 0) (tCons (tOp (λx y H Q=>∃a b:Str,x=V.str a/\y=V.str b/\a.length+b.length<=sizeLine/\Q (V.str (a++b)) H) (tOp (λx y H Q=>∃a b:Str,x=V.str a/\y=V.str b/\a.length+b.length<=sizeLine/\Q (V.str (a++b)) H) (tSl (λx lo hi H Q=>∃a,x=V.str a/\a.length<=sizeLine/\Q (V.str (Bd a lo hi)) H) (tVar 0) zav (tPart (tVar 3))) (tVar 7)) (tSl (λx lo hi H Q=>∃a,x=V.str a/\a.length<=sizeLine/\Q (V.str (Bd a lo hi)) H) (tVar 0) (tPart (tOp (rI0 λi j=>V.int (i+j)) (tVar 3) (tC (V.int 1)))) zav)) (tCons (tOp (λx y H Q=>∃a b:Str,x=V.str a/\y=V.str b/\a.length+b.length<=sizeLine/\Q (V.str (a++b)) H) (tOp (λx y H Q=>∃a b:Str,x=V.str a/\y=V.str b/\a.length+b.length<=sizeLine/\Q (V.str (a++b)) H) (tSl (λx lo hi H Q=>∃a,x=V.str a/\a.length<=sizeLine/\Q (V.str (Bd a lo hi)) H) (tVar 0) zav (tPart (tVar 3))) (tVar 7)) (tSl (λx lo hi H Q=>∃a,x=V.str a/\a.length<=sizeLine/\Q (V.str (Bd a lo hi)) H) (tVar 0) (tPart (tVar 3)) zav)) (tCons (tOp (λx y H Q=>∃a b:Str,x=V.str a/\y=V.str b/\a.length+b.length<=sizeLine/\Q (V.str (a++b)) H) (tSl (λx lo hi H Q=>∃a,x=V.str a/\a.length<=sizeLine/\Q (V.str (Bd a lo hi)) H) (tVar 0) zav (tPart (tVar 3))) (tSl (λx lo hi H Q=>∃a,x=V.str a/\a.length<=sizeLine/\Q (V.str (Bd a lo hi)) H) (tVar 0) (tPart (tOp (rI0 λi j=>V.int (i+j)) (tVar 3) (tC (V.int 1)))) zav)) tNil))))) (gName 11)) (tSeq (tAsg (tOp rCat (tVar 11) (tLst (tCons (tBM K "str" rJoin (tC (V.str (Aa "\n"))) (tCons (tOp rCat (tSl (rSlL K) (tVar 8) zav (tPart (tVar 9))) (tSl (rSlL K) (tVar 8) (tPart (tOp (rI0 λi j=>V.int (i+j)) (tVar 9) (tC (V.int 1)))) zav)) tNil)) (tCons (tBM K "str" rJoin (tC (V.str (Aa "\n"))) (tCons (tOp rCat (tSl (rSlL K) (tVar 8) zav (tPart (tOp (rI0 λi j=>V.int (i+j)) (tVar 9) (tC (V.int 1))))) (tSl (rSlL K) (tVar 8) (tPart (tVar 9)) zav)) tNil)) tNil)))) (gName 11)) (tSeq (tDrop (tBM K "list" zbq (tVar 11) (tCons (tBM K "str" rJoin (tC (V.str (Aa "\n"))) (tCons (tOp rCat (tLst (tCons (tVar 13) tNil)) (tSl (rSlL K) (tVar 8) (tPart (tC (V.int 1))) zav)) tNil)) tNil))) (tSeq (tDrop (tBM K "list" zbq (tVar 11) (tCons (tOp (λx y H Q=>∃a b:Str,x=V.str a/\y=V.str b/\a.length+b.length<=sizeLine/\Q (V.str (a++b)) H) (tC (V.str (Aa "0 0\n"))) (tOp (rIxL K) (tLst (tCons (tOp (λx y H Q=>∃a b:Str,x=V.str a/\y=V.str b/\a.length+b.length<=sizeLine/\Q (V.str (a++b)) H) (tOp (λx y H Q=>∃a b:Str,x=V.str a/\y=V.str b/\a.length+b.length<=sizeLine/\Q (V.str (a++b)) H) (tC (V.str (Aa "#"))) (tOp (λx y H Q=>∃a n,x=V.str a/\y=V.int n/\0<=n/\a.length*n.toNat<=sizeLine/\n<2 ^ 62/\Q (V.str (zaZ a n.toNat)) H) (tC (V.str (Aa "."))) (tOp (rI0 λi j=>V.int (i-j)) (tVar 14) (tC (V.int 2))))) (tC (V.str (Aa "#")))) (tCons (tBM K "str" rJoin (tC (V.str (Aa "\n"))) (tCons (tOp rRep (tLst (tCons (tC (V.str (Aa "#"))) tNil)) (tVar 14)) tNil)) tNil))) (tOp (rI (λx j=>0<j) λi j=>V.int (i % j)) (tOp (rI CDiv λi j=>V.int (i / j)) (tVar 4) (tC (V.int 4))) (tC (V.int 2))))) tNil))) (tSeq (tAsg (tOp rRep (tLst (tCons (tOp (λx y H Q=>∃a n,x=V.str a/\y=V.int n/\0<=n/\a.length*n.toNat<=sizeLine/\n<2 ^ 62/\Q (V.str (zaZ a n.toNat)) H) (tC (V.str (Aa "#"))) (tCB (λxs H Q=>∃z:Str,xs=[V.str z]/\z.length<=sizeLine/\Q (V.int ((z.length:Nat):Int)) H) (tCons (tOp (rIxL K) (tVar 8) (tUn (rU λi=>V.int (-i)) (tC (V.int 1)))) tNil))) tNil)) (tOp (rI0 λi j=>V.int (i+j)) (tC (V.int 1)) (tOp (rI (λx j=>0<j) λi j=>V.int (i % j)) (tVar 3) (tC (V.int 12))))) (gName 15)) (tSeq (tDrop (tBM K "list" zbq (tVar 11) (tCons (tBM K "str" rJoin (tC (V.str (Aa "\n"))) (tCons (tOp rCat (tOp rCat (tSl (rSlL K) (tVar 8) zav (tPart (tOp (rI0 λi j=>V.int (i+j)) (tVar 9) (tC (V.int 1))))) (tVar 15)) (tSl (rSlL K) (tVar 8) (tPart (tOp (rI0 λi j=>V.int (i+j)) (tVar 9) (tC (V.int 1)))) zav)) tNil)) tNil))) (tRet (tOp (rIxL K) (tVar 11) (tOp (rI (λx j=>0<j) λi j=>V.int (i % j)) (tVar 5) (tC (V.int 9)))))))))))))))))))))) D [some (.str x),some (.ref a),none,none,none,none,none,none,none,none,none,none,none,none,none,none] H:=by
 refine⟨_,rfl,a,_,rfl,ha,rfl,_,_,rfl,_,_,rfl,_,_,rfl,_,_,rfl,rfl,?_⟩;refine⟨_,rfl,_,_,rfl,rfl,(by decide +kernel),?_⟩;generalize hsg:(Aa "#.#.#.\n-0123456789 abcdefghijklmnopqrstuvwxyz" ++ Aa "ABCDEFGHIJKLMNOPQRSTUVWXYZ!\"$&'()*+,/:;<=>?\x40[\\]^_`{|}~")=sg;have hsl:0<sg.length/\sg.length<=200:=by rw[<- hsg];decide +kernel
 refine⟨_,rfl,_,rfl,x,rfl,zal (by lia),_,_,rfl,rfl,_,_,rfl,rfl,(by show (0:Int)<(x.length:Nat)+1;lia),?_⟩;obtain⟨at_,hat⟩:=Cy (BE n2 (show ((x.length:Nat):Int)+1≠0 by lia));have hat2:at_<=x.length:=by have:=BG n2 (show (0:Int)<((x.length:Nat):Int)+1 by lia);lia
 show gName 3 (V.int (n2 % (((x.length:Nat):Int)+1))) _ _ _;rw[hat];obtain⟨c,hc,_⟩:=ziG (xs:=sg.cps.toList) (BE n3 (show ((sg.length:Nat):Int)≠0 by lia)) (by have:=BG n3 (show (0:Int)<((sg.length:Nat):Int) by lia);have e:=zap sg;show _<(((cl sg).length:Nat):Int);lia);refine⟨_,rfl,_,rfl,_,rfl,sg,rfl,zal (by lia),_,_,rfl,rfl,(by show (0:Int)<(sg.length:Nat);lia),sg,_,c,rfl,rfl,zal (by lia),hc,?_⟩;have hW1:=zbI x nlT;have htr:tot (Af x nlT)=x.length+1:=zez x 10;refine⟨_,rfl,rfl,x,_,rfl,rfl,rfl,zal (by lia),λp1 hp1=>?_⟩;have s1:=Same.up (o:=.lst ((Af x nlT).map V.str)) hp1;have e1:upd H p1 (.lst ((Af x nlT).map V.str)) p1=some (.lst ((Af x nlT).map V.str)):=zaa;show tSeq _ _ _ _ (upd H p1 (.lst ((Af x nlT).map V.str)));generalize upd H p1 (.lst ((Af x nlT).map V.str))=H1 at s1 e1;generalize Af x nlT=rows at *;have hwl:(rows.map V.str).length=rows.length:=Ae _;have hrl:=zc4 rows;have g0:=zaT (rows:=rows) (i:=0) (by lia);obtain⟨he,hhe⟩:=Cy (BE (n4 / 9) (show ((rows.length:Nat):Int)≠0 by lia));refine⟨_,rfl,_,_,rfl,rfl,⟨by decide,by decide⟩,_,rfl,p1,_,rfl,.inl (SqL.of e1),_,_,rfl,rfl,(by show (0:Int)<(((rows.map V.str).length:Nat):Int);rw[hwl];lia),?_⟩;rw[hwl];show gName 9 (V.int (n4 / 9 % ((rows.length:Nat):Int))) _ _ _;rw[hhe];have h0r:=zgu g0.2;have htw:tot (Af (rowAt rows 0) spT)=(rowAt rows 0).length+1:=zez _ 32;have hV1:=zbI (rowAt rows 0) spT;refine⟨_,rfl,p1,_,_,_,rfl,rfl,SqL.of e1,zas (j:=0) g0.1,rfl,rowAt rows 0,_,rfl,rfl,rfl,zal (by lia),λp2 hp2=>?_⟩;have s2:=Same.up (o:=.lst ((Af (rowAt rows 0) spT).map V.str)) hp2;have e2:upd H1 p2 (.lst ((Af (rowAt rows 0) spT).map V.str)) p2=some (.lst ((Af (rowAt rows 0) spT).map V.str)):=zaa;show tSeq _ _ _ _ (upd H1 p2 (.lst ((Af (rowAt rows 0) spT).map V.str)));generalize upd H1 p2 (.lst ((Af (rowAt rows 0) spT).map V.str))=H2 at s2 e2;generalize Af (rowAt rows 0) spT=ws at *;have hvl:(ws.map V.str).length=ws.length:=Ae _;have hwl2:=zc4 ws;refine⟨_,_,rfl,rfl,(by decide),(by decide +kernel),(by decide),_,_,rfl,rfl,(by decide +kernel),_,_,rfl,rfl,(by decide),(by decide +kernel),(by decide),_,_,rfl,rfl,(by decide +kernel),(by show 10<=sizeLine;decide),λp3 hp3=>?_⟩;generalize hg3:upd H2 p3 _=H3;have s3:Same H2 H3:=hg3 ▸ Same.up hp3;have e3:=(congrFun hg3 p3).symm.trans zaa
 have hlist:∃wz:Str,atI [V.str (Aa "-0"),V.str (Aa "00"),V.str (Aa ""),V.str (Aa "1" ++ zaZ (Aa "0") (Int.toNat 29)),V.str (Aa "1" ++ zaZ (Aa "0") (Int.toNat 30)),V.str (Aa "+1"),V.str (Aa "1."),V.str (Aa "#"),V.str (Aa "-"),V.str (Aa "-5")] (n3 % 10)=some (.str wz)/\wz.length<=31:=by
  have:n3 % 10=0∨n3 % 10=1∨n3 % 10=2∨n3 % 10=3∨n3 % 10=4∨n3 % 10=5∨n3 % 10=6∨n3 % 10=7∨n3 % 10=8∨n3 % 10=9:=by lia
  rcases this with h |h |h |h |h |h |h |h |h |h <;> rw[h] <;> exact⟨_,rfl,by decide +kernel⟩
 obtain⟨wz,hwz,hwzl⟩:=hlist;obtain⟨pl,hpl⟩:=Cy (BE (n3 / 10) (show ((ws.length:Nat):Int)≠0 by lia));refine⟨_,rfl,_,_,rfl,rfl,⟨by decide,by decide⟩,_,rfl,p2,_,rfl,.inl (SqL.of (s3 _ _ e2)),_,_,rfl,rfl,(by show (0:Int)<(((ws.map V.str).length:Nat):Int);rw[hvl];lia),?_⟩;rw[hvl];show gName 12 (V.int (n3 / 10 % ((ws.length:Nat):Int))) _ _ _;rw[hpl];refine⟨rfl,_,rfl,_,rfl,_,rfl,p2,_,rfl,SqL.of (s3 _ _ e2),λp4 hp4=>?_⟩;rw[zbX,<- List.map_take];generalize hg4:upd H3 p4 _=H4;have s4:Same H3 H4:=hg4 ▸ Same.up hp4;have e4:=(congrFun hg4 p4).symm.trans zaa;clear hg4;refine⟨_,rfl,_,rfl,_,_,rfl,rfl,(by show (0:Int)<10;decide),p3,_,_,_,rfl,rfl,SqL.of (s4 _ _ e3),hwz,(by show 1<=sizeLine;decide),λp5 hp5=>?_⟩;generalize hg5:upd H4 p5 _=H5;have s5:Same H4 H5:=hg5 ▸ Same.up hp5;have e5:=(congrFun hg5 p5).symm.trans zaa;clear hg5;refine⟨p4,p5,_,_,rfl,rfl,s5 _ _ e4,e5,zal (by simp only[Ae,AJ,AD,Bv];lia),λp6 hp6=>?_⟩;generalize hg6:upd H5 p6 _=H6;have s6:Same H5 H6:=hg6 ▸ Same.up hp6;have e6:=(congrFun hg6 p6).symm.trans zaa;clear hg6;refine⟨_,rfl,_,rfl,_,_,rfl,rfl,_,rfl,p2,_,rfl,SqL.of ((s3.trans (s4.trans (s5.trans s6))) _ _ e2),λp7 hp7=>?_⟩;rw[show ((pl:Int)+1)=((pl+1:Nat):Int) from rfl,zbu,<- Cr];generalize hg7:upd H6 p7 _=H7;have s7:Same H6 H7:=hg7 ▸ Same.up hp7;have e7:=(congrFun hg7 p7).symm.trans zaa;clear hg7;refine⟨p6,p7,_,_,rfl,rfl,s7 _ _ e6,e7,zal (by simp only[At,Ae,AJ,AC,AD,Bv];lia),λp8 hp8=>?_⟩;generalize hg8:upd H7 p8 _=H8;have s8:Same H7 H8:=hg8 ▸ Same.up hp8;have e8:=(congrFun hg8 p8).symm.trans zaa;clear hg8;have tw:=zb1 pl ws
 have tw1:tot (ws.drop (pl+1))<=tot (ws.drop pl):=by have:=zb1 1 (ws.drop pl);rw[List.drop_drop]at this;lia
 have tf:tot ((ws.take pl++[wz])++ws.drop (pl+1))<=(rowAt rows 0).length+33:=by rw[zbH,zbH,zbc];have:tot ([]:List Str)=0:=rfl;lia
 refine⟨Aa " ",p8,(ws.take pl++[wz])++ws.drop (pl+1),rfl,rfl,(by rw[Ak,Ak];exact e8),zcG rfl (by lia),?_⟩;have hfl:(Bt (Aa " ") ((ws.take pl++[wz])++ws.drop (pl+1))).length<=(rowAt rows 0).length+33:=AK (zbP (c:=32) _) tf;generalize Bt (Aa " ") ((ws.take pl++[wz])++ws.drop (pl+1))=tf1 at hfl;have S18:Same H1 H8:=s2.trans (s3.trans (s4.trans (s5.trans (s6.trans (s7.trans s8)))))
 have hmany:∃mm:Nat,atI [V.int 60,V.int 61,V.int 62,V.int 59] (n3 % 4)=some (.int (mm:Int))/\59<=mm/\mm<=62:=by
  have:n3 % 4=0∨n3 % 4=1∨n3 % 4=2∨n3 % 4=3:=by lia
  rcases this with h |h |h |h <;> rw[h]
  .exact⟨60,rfl,by decide,by decide⟩
  .exact⟨61,rfl,by decide,by decide⟩
  .exact⟨62,rfl,by decide,by decide⟩
  .exact⟨59,rfl,by decide,by decide⟩
 obtain⟨mm,hmm,mm1,mm2⟩:=hmany;refine⟨(by show 4<=sizeLine;decide),λp9 hp9=>?_⟩;generalize hg9:upd H8 p9 _=H9;have s9:Same H8 H9:=hg9 ▸ Same.up hp9;have e9:=(congrFun hg9 p9).symm.trans zaa;clear hg9;refine⟨_,rfl,_,_,rfl,rfl,(by show (0:Int)<4;decide),p9,_,_,_,rfl,rfl,SqL.of e9,hmm,?_⟩;have hS:=Txt.slice_le x;have c1:(⟨#[c]⟩:Str).length=1:=rfl
 refine⟨_,rfl,_,rfl,_,rfl,_,rfl,x,rfl,zal (by lia),_,rfl,_,_,rfl,rfl,?u1,_,rfl,_,rfl,_,_,rfl,rfl,_,rfl,x,rfl,zal (by lia),_,_,rfl,rfl,?u2,
  _,rfl,_,rfl,_,rfl,x,rfl,zal (by lia),_,rfl,_,_,rfl,rfl,?u3,_,rfl,_,rfl,_,rfl,x,rfl,zal (by lia),_,_,rfl,rfl,?u4,
  _,rfl,_,rfl,_,rfl,x,rfl,zal (by lia),_,rfl,_,rfl,_,_,rfl,rfl,_,rfl,x,rfl,zal (by lia),_,_,rfl,rfl,?u5,(by show 4<=sizeLine;decide),λp10 hp10=>?_⟩
 case u1=>exact zal (by have:=hS none (some (at_:Int));lia)
 case u2=>exact zal (by rw[zaz];have:=hS none (some (at_:Int));have:=hS (some ((at_:Int)+1)) none;lia)
 case u3=>exact zal (by have:=hS none (some (at_:Int));lia)
 case u4=>exact zal (by rw[zaz];have:=hS none (some (at_:Int));have:=hS (some (at_:Int)) none;lia)
 case u5=>exact zal (by have:=hS none (some (at_:Int));have:=hS (some ((at_:Int)+1)) none;lia)
 generalize hg10:upd H9 p10 _=H10;have s10:Same H9 H10:=hg10 ▸ Same.up hp10;have e10:=(congrFun hg10 p10).symm.trans zaa;clear hg10;have S19:=S18.trans s9;have l2:=zaz;refine zj5 (ys:=[x,_,_,_]) hl htr hW1 (s10 _ _ (S19 _ _ e1)) e10 rfl (λy hy=>?_) hfl mm1 mm2 z3 z4 λy H' hyl hs=>k y H' hyl (s1.trans (S19.trans (s10.trans hs)))
 have a1:=hS none (some (at_:Int));have a2:=hS (some ((at_:Int)+1)) none;have a3:=hS (some (at_:Int)) none;rcases Ax.mp hy with h |hy
 .rw[h];lia
 rcases Ax.mp hy with h |hy
 .rw[h,zaz,zaz];lia
 rcases Ax.mp hy with h |hy
 .rw[h,zaz,zaz];lia
 .rw[Av.mp hy,zaz];lia
end
theorem zfl (T:Txt P w K mg) (d:Df K mg "_law_bent" zch ["_law_text","_law_draws"]):FnOk P w K mg base CX0 1 d.f d.fd ["_law_text","_law_draws"] (zgE K):=by
 refine d.F.ok zak (λvs H Q E h=>?_) (λcdv A outer s H vs Q E hr h=>?_)
 .obtain⟨x,a,n1,n2,n3,n4,rfl,_⟩:=h;rfl
 .obtain⟨x,a,n1,n2,n3,n4,rfl,hl,ha,⟨p2,p3,p4⟩,⟨b3,b4⟩,k⟩:=h
  refine⟨_,(zac (zeI (pv 1) (zgX (by rfl) (zaq (nG 2 zak.nd) (zaq (nG 3 zak.nd) (zaq (nG 4 zak.nd) (zaq (nG 5 zak.nd) zbN))))))
   (zac (sE 6 zak.nd zai)
   (zac (sE 6 zak.nd (pe_op zbb (pv 6) zai))
   (zac (sE 3 zak.nd (pe_op zbk (pv 3) (pe_op zaI (zah zat (by rfl) T.nlen (by rfl) (pa_N (pv 0) zab)) zad)))
   (zac (sE 7 zak.nd (pe_ix zdR (pv 6) (pe_op zbk (pv 4) (zah zat (by rfl) T.nlen (by rfl) (pa_N (pv 6) zab))) (λ_ _=>rfl)))
   (zac (sE 8 zak.nd (pe_bm An Bg Bh zbz (pv 0) (pa_C zai zab)))
   (zac (sE 9 zak.nd (pe_op zbk (pe_op zde (pv 5) zad) (zah zaj (by rfl) T.nlen (by rfl) (pa_N (pv 8) zab))))
   (zac (sE 10 zak.nd (pe_bm An Bg Bh zbz (pe_ix zao (pv 8) zad (λ_ _=>rfl)) (pa_C zai zab)))
   (zac (sE 11 zak.nd (za0 (pa_C zai (pa_C zai (pa_C zai (pa_B (pe_op zbb zai (pe_op zd6 zai zad)) (pa_B (pe_op zbb zai (pe_op zd6 zai zad)) (pa_C zai (pa_C zai (pa_C zai (pa_C zai (pa_C zai zab))))))))))))
   (zac (sE 12 zak.nd (pe_op zbk (pe_op zde (pv 4) zad) (zah zaj (by rfl) T.nlen (by rfl) (pa_N (pv 10) zab))))
   (zac (sE 13 zak.nd (pe_bm An AT AU zbl zai (pa_B (pe_op zcR (pe_op zcR (zau za7 (pv 10) zaE (zaD (pv 12))) (za0 (zaf (pe_ix zao (pv 11) (pe_op zbk (pv 4) zad) (λ_ _=>rfl)) zab))) (zau za7 (pv 10) (zaD (pe_op zaI (pv 12) zad)) zaE)) zab)))
   (zac (sE 14 zak.nd (pe_ix zao (za0 (pa_C zad (pa_C zad (pa_C zad (pa_C zad zab))))) (pe_op zbk (pv 4) zad) (λ_ _=>rfl)))
   (zac (sE 11 zak.nd (za0 (pa_N (pv 0) (pa_B (pe_op zbb (pe_op zbb (zau zbR (pv 0) zaE (zaD (pv 3))) (pv 7)) (zau zbR (pv 0) (zaD (pe_op zaI (pv 3) zad)) zaE)) (pa_B (pe_op zbb (pe_op zbb (zau zbR (pv 0) zaE (zaD (pv 3))) (pv 7)) (zau zbR (pv 0) (zaD (pv 3)) zaE)) (pa_B (pe_op zbb (zau zbR (pv 0) zaE (zaD (pv 3))) (zau zbR (pv 0) (zaD (pe_op zaI (pv 3) zad)) zaE)) zab))))))
   (zac (sE 11 zak.nd (pe_op zcR (pv 11) (za0 (zaf (pe_bm An AT AU zbl zai (pa_B (pe_op zcR (zau za7 (pv 8) zaE (zaD (pv 9))) (zau za7 (pv 8) (zaD (pe_op zaI (pv 9) zad)) zaE)) zab)) (zaf (pe_bm An AT AU zbl zai (pa_B (pe_op zcR (zau za7 (pv 8) zaE (zaD (pe_op zaI (pv 9) zad))) (zau za7 (pv 8) (zaD (pv 9)) zaE)) zab)) zab)))))
   (zac (za9 (pe_bm AR Ba Bb za6 (pv 11) (zaf (pe_bm An AT AU zbl zai (pa_B (pe_op zcR (za0 (pa_N (pv 13) zab)) (zau za7 (pv 8) (zaD zad) zaE)) zab)) zab)))
   (zac (za9 (pe_bm AR Ba Bb za6 (pv 11) (pa_B (pe_op zbb zai (pe_ix zao (za0 (pa_B (pe_op zbb (pe_op zbb zai (pe_op zd6 zai (pe_op zbV (pv 14) zad))) zai) (zaf (pe_bm An AT AU zbl zai (pa_B (pe_op ziu (za0 (pa_C zai zab)) (pv 14)) zab)) zab))) (pe_op zbk (pe_op zde (pv 4) zad) zad) (λ_ _=>rfl))) zab)))
   (zac (sE 15 zak.nd (pe_op ziu (za0 (pa_B (pe_op zd6 zai (zah zat (by rfl) T.nlen (by rfl) (zaf (pe_ix zao (pv 8) (pe_un zcl zad) (λ_ _=>rfl)) zab))) zab)) (pe_op zaI zad (pe_op zbk (pv 3) zad))))
   (zac (za9 (pe_bm AR Ba Bb za6 (pv 11) (zaf (pe_bm An AT AU zbl zai (pa_B (pe_op zcR (pe_op zcR (zau za7 (pv 8) zaE (zaD (pe_op zaI (pv 9) zad))) (pv 15)) (zau za7 (pv 8) (zaD (pe_op zaI (pv 9) zad)) zaE)) zab)) zab)))
   (zag (zay (pe_ix zao (pv 11) (pe_op zbk (pv 5) zad) (λ_ _=>rfl)))))))))))))))))))))),?_⟩
  exact zht hl ha p2 p3 p4 b3 b4 k
end
theorem all_mk {l:W.OpenLaw}{w:AB}{K:W.Frag}{h:Heap}{mg:Str -> Option Value}{fa:Addr}(X:K.In h) (G:h.Ns Au mg) (hfa:mg "law" = some (.ref fa)){fx31:Addr}{od31 an31:Option Addr}{sl31:Array (Option Value)}{oc31 kV31 dc31 pm31 ct31 cd31:Value}
  (h0:DA K "cell_order" zbU)
  (h1:DA K "ask_picture" zbL)
  (h2:DA K "cell_table" zbx)
  (h3:DA K "runs_of" zeE)
  (h4:DA K "row_of_runs" zcp)
  (h5:DA K "by_figures" zcO)
  (h6:DA K "by_runs" zeG)
  (h7:DA K "show_row" zdI)
  (h8:DA K "are_figures" zbm)
  (h9:DA K "sort_in" zeD)
  (h10:DA K "number_in" zcg)
  (h11:DA K "run_in" zfE)
  (h12:DA K "runs_in" zeF)
  (h13:DA K "figures_in" zcN)
  (h14:DA K "row_in" zfF)
  (h15:DA K "things_read" zbJ)
  (h16:DA K "read_place" zbT)
  (h17:DA K "show_drawn" zbf)
  (h18:DA K "is_sign_row" zbK)
  (h19:DA K "ask_sign_rows" zbp)
  (h20:DA K "is_tight" zbo)
  (h21:DA K "read_drawn" zbw)
  (h22:DA K "_law_cell_at" zbC)
  (h23:DA K "_law_row" zcD)
  (h24:DA K "_law_picture" zbd)
  (h25:DA K "_law_lot" zcE)
  (h26:DA K "_law_drawn" zbg)
  (h27:DA K "_law_number" zbn)
  (h28:DA K "_law_bent" zch)
  (h29:DA K "_law_bad" za8)
  (h30:DA K "_law_cells" zbh)
  (a31:BD K Au "law" = some (some (.ref fx31))) (l31:K.lookup fx31=some ⟨oc31,od31,.func (C8 "law" "law" (zaY s_law) (zaQ s_law) (zae s_law) .none kV31 dc31 pm31 an31 cd31 ct31),sl31⟩) (c31:W.codeIn K cd31 "law" = true) (k31:Cv K (.ref fx31)=true)
  {tMS tMC tMF tFG:Tok}{cTW cN cNR cRE fI pPW fS fN fR bRD:Addr}{odI anI odC odP:Option Addr}{slI slC slP:Array (Option Value)}{ocI kVI dcI pmI cdI ctI:Value}{clC:ClassData}{nPW nRD:Nat}{tw1 tw2 tr1 tr3 tr5:Tok} (xMS:BD K Au "MOST_SIGNS" = some (some (.int 60 tMS))) (xMC:BD K Au "MOST_CELLS" = some (some (.int 120 tMC))) (xMF:BD K Au "MOST_FIGURES" = some (some (.int 30 tMF))) (xFG:BD K Au "FIGURES" = some (some (.str "0123456789" tFG)))
  (xTW:BD K Au "TooWide" = some (some (.ref cTW))) (xNT:BD K Au "NoText" = some (some (.ref cN))) (xNR:BD K Au "NoRound" = some (some (.ref cNR))) (xRE:BD K Au "RimError" = some (some (.ref cRE))) (xPW:BD K Au "PLACE_WORDS" = some (some (.ref pPW))) (xNI:BD K Au "number_in" = some (some (.ref fN))) (xRD:BD K Au "READERS" = some (some (.ref bRD)))
  (xPL:K.lookup pPW=some ⟨.type "tuple",odP,.seq #[.str "number" tw1,.str "number" tw2] nPW,slP⟩)
  (xRL:K.lookup bRD=some ⟨.type "dict",none,.dict #[⟨Bi w.params "sort",.str "sort" tr1,.ref fS⟩,⟨Bi w.params "number",.str "number" tr3,.ref fN⟩,⟨Bi w.params "row",.str "row" tr5,.ref fR⟩] nRD,#[]⟩)
  (xEX:W.excIn K cTW [.type "ValueError",.type "Exception",.type "BaseException",.type "object"] "ValueError.__new__" = true)
  (xLC:K.lookup cN=some ⟨.type "type",odC,.cls clC,slC⟩) (xIN:BD K clC.ns "__init__" = some (some (.ref fI))) (xLF:K.lookup fI=some ⟨ocI,odI,.func (C8 "__init__" "NoText.__init__" (zaY zcC) (zaQ zcC) (zae zcC) .none kVI dcI pmI anI cdI ctI),slI⟩)
  (xCI:W.codeIn K cdI "NoText.__init__" = true) (xKI:Cv K (.ref fI)=true) (xMX:zfV K cN [.type "ValueError",.type "Exception",.type "BaseException",.type "object"] "ValueError.__new__" fI=true) (xFN:W.isFn K (.ref fI)=true) (xKC:Cv K (.ref cN)=true)
  (xS1:(W.clsIn K cN).any (λcd=>cd.hasDict && overX bmV cd.mro)=true) (xS3:Bl K (.ref cN) "__setattr__" = some (some (.builtin "object.__setattr__"))) (xNA:Bl K (.ref cN) "row" = some none) (xNB:Bl K (.ref cN) "word" = some none)
  (xC1:Bl K (.ref cN) "__getattribute__" = some (some (.builtin "BaseException.__getattribute__"))) (xC7:Bl K (.ref cN) "__getattr__" = some none) (xC8:W.subIn K (.ref cN) (.type "BaseException")=some true) (xC2:W.hasDictIn K cN=true) (xC3:Bl K (.ref cN) "__class__" = some (some (.builtin "object.__class__")))
  (xC4:W.specialIn K (.builtin "object.__class__") "__get__" = some (some (.builtin "getset_descriptor.__get__"))) (xC5:W.takesIn K (.builtin "object.__class__")=some true) (xS2:W.mroIn K cN (.type "object")=some true)
  (xXT:W.exmOne K (.ref cN) (.ref cN)=some true) (xKR:W.kitOne K (.ref cN) (.ref cRE)=some true) (xKV:W.kitOne K (.ref cN) (.type "ValueError")=some true)
  (z_range:BD K Au "range" = some none)
  (z_len:BD K Au "len" = some none)
  (z_min:BD K Au "min" = some none)
  (z_max:BD K Au "max" = some none)
  (z_int:BD K Au "int" = some none)
  (z_str:BD K Au "str" = some none)
  (z_isinstance:BD K Au "isinstance" = some none)
  (z_list:BD K Au "list" = some none)
  (z_abs:BD K Au "abs" = some none)
  (z_reversed:BD K Au "reversed" = some none)
  (z_ValueError:BD K Au "ValueError" = some none)
  (z_all:BD K Au "all" = some none)
  (z_tuple:BD K Au "tuple" = some none)
  (z_enumerate:BD K Au "enumerate" = some none)
  (z_bool:BD K Au "bool" = some none) :
  ∃fd:A5,(∀(s:Ab) (v:Value),BindsTo s fd ⟨[v],[]⟩ [("_law_script",v)])/\∀base:Heap,K.In base->base.Ns Au mg->FnOk l.prog w K mg base CX0 8 fa fd ["_law_script"] (spLaw K):=by
 have e:=hfa.symm.trans (B7 X G a31)
 cases e
 have T:Txt l.prog w K mg:={ nrange:=Bo X G z_range,nlen:=Bo X G z_len,nmin:=Bo X G z_min,nmax:=Bo X G z_max,nint:=Bo X G z_int,nstr:=Bo X G z_str,nisinstance:=Bo X G z_isinstance,nlist:=Bo X G z_list,nabs:=Bo X G z_abs,nreversed:=Bo X G z_reversed,nValueError:=Bo X G z_ValueError,nall:=Bo X G z_all,ntuple:=Bo X G z_tuple,nenumerate:=Bo X G z_enumerate,nbool:=Bo X G z_bool };obtain⟨d'0⟩:=h0.d1 X G (p0:="cell");obtain⟨d'1⟩:=h1.d1 X G (p0:="picture");obtain⟨d'2⟩:=h2.d1 X G (p0:="picture");obtain⟨d'3⟩:=h3.d1 X G (p0:="row");obtain⟨d'4⟩:=h4.d1 X G (p0:="runs");obtain⟨d'5⟩:=h5.d1 X G (p0:="row");obtain⟨d'6⟩:=h6.d1 X G (p0:="row");obtain⟨d'7⟩:=h7.d1 X G (p0:="row");obtain⟨d'8⟩:=h8.d1 X G (p0:="word");obtain⟨d'9⟩:=h9.d1 X G (p0:="word");obtain⟨d'a⟩:=h10.d1 X G (p0:="word");obtain⟨d'b⟩:=h11.d1 X G (p0:="word");obtain⟨d'c⟩:=h12.d1 X G (p0:="word");obtain⟨d'd⟩:=h13.d1 X G (p0:="word");obtain⟨d'e⟩:=h14.d1 X G (p0:="word");obtain⟨d'f⟩:=h15.d3 X G (p0:="text") (p1:="at") (p2:="forms");obtain⟨d'10⟩:=h16.d1 X G (p0:="text");obtain⟨d'11⟩:=h17.d1 X G (p0:="picture");obtain⟨d'12⟩:=h18.d2 X G (p0:="row") (p1:="first");obtain⟨d'13⟩:=h19.d1 X G (p0:="rows");obtain⟨d'14⟩:=h20.d1 X G (p0:="rows");obtain⟨d'15⟩:=h21.d1 X G (p0:="text");obtain⟨d'16⟩:=h22.d2 X G (p0:="_law_script") (p1:="_law_k");obtain⟨d'17⟩:=h23.d3 X G (p0:="_law_cell") (p1:="_law_many") (p2:="_law_base");obtain⟨d'18⟩:=h24.d2 X G (p0:="_law_script") (p1:="_law_start");obtain⟨d'19⟩:=h25.d1 X G (p0:="_law_cells_here");obtain⟨d'1a⟩:=h26.d1 X G (p0:="_law_cells_here");obtain⟨d'1b⟩:=h27.d1 X G (p0:="_law_word");obtain⟨d'1c⟩:=h28.d2 X G (p0:="_law_text") (p1:="_law_draws");obtain⟨d'1d⟩:=h29.d1 X G (p0:="_law_text");obtain⟨d'1e⟩:=h30.d1 X G (p0:="_law_text");have F31:=zcS (st:=s_law) l31 c31 k31;have b31:=F31.b1 (p0:="_law_script");refine⟨C8 "law" "law" (zaY s_law) (zaQ s_law) (zae s_law) .none kV31 dc31 pm31 an31 cd31 ct31,λs v=>.of_eq rfl,λbase _ _=>?_⟩;have fn:∀{k:Nat}{x:Str}{s:Stmt}{ps:List Str}{sp:Sp} (d:Df K mg x s ps),FnOk l.prog w K mg base CX0 k d.f d.fd ps sp->Fn l.prog w K mg base k x ps sp:=λd h=>d.fn h
 have hFI:=zcS (st:=zcC) xLF xCI xKI;have hXN:ExcN K mg cN cNR cRE:=⟨B7 X G xNT,B7 X G xNR,B7 X G xRE,⟨xC1,xC7,xC8,xC2,xC3,xC4,xC5,xS2⟩,xNA,xNB,xXT,xKR,xKV⟩;have g'1f:=fn d'0 (zec d'0);have g'20:=fn d'1 (zdy T g'1f d'1);have g'21:=fn d'2 (zeb d'2);have g'22:=d'11.fnX (zd7 (base:=base) T (B7 X G xMS) (B7 X G xTW) xEX g'20 g'21 d'11);have g'23:=fn d'8 (zdz T (B7 X G xFG) d'8);have g'24:=fn d'a (zeM T (B7 X G xMF) g'23 d'a);have g'25:=(ExA.mk (base:=base) fI _ _ _ _ _ _ PySem.F.excBase_ValueError ⟨xMX,xFN,xKC⟩ (zhU hFI ⟨xS1,xS2,xS3⟩ xNA xNB) (hFI.b3 (p0:="self") (p1:="row") (p2:="word")) (B7 X G xNT) (by decide):ExA l.prog w K mg base "NoText" cN ["row","word"]);have g'26:=(by have e:=(B7 X G xNI).symm.trans g'24.m;injection e with e;injection e with e;subst e;exact⟨⟨_,_,_,_,_,B7 X G xRD,xRL⟩⟩:Rds3 l.prog w K mg fS g'24.f fR);have g'27:=d'f.fnX (zdu (fn:=fN) T g'25 g'24 g'26 d'f);have g'28:=d'10.fnX (zd8 (B7 X G xPW) (λH=>.inr ⟨_,_,_,xPL,rfl,rfl,(by show 2<=sizeLine;decide),.cons ⟨_,rfl⟩ (.cons ⟨_,rfl⟩ .nil)⟩) g'27 d'10);have g'29:=fn d'12 (zdx T (B7 X G xMS) d'12);have g'2a:=d'13.fnX (zcZ T (B7 X G xMS) (B7 X G xMC) g'25 g'29 d'13);have g'2b:=fn d'14 (zfm T d'14);have g'2c:=d'15.fnX (zd9 T g'25 g'28 g'2a g'2b d'15);have g'2d:=fn d'16 (zdw T d'16);have g'2e:=fn d'17 (zf6 T d'17);have g'2f:=fn d'18 (zdv T g'2d g'2e d'18);have g'30:=fn d'19 (zf7 d'19);have g'31:=fn d'1a (zeN T g'30 d'1a);have g'32:=fn d'1b (zea T d'1b);have g'33:=fn d'1e (zeO T d'1e);have g'34:=fn d'1c (zfl T d'1c);have g'35:=fn d'1d (zf8 T g'32 d'1d);exact zjS T hXN g'2d g'2e g'2f g'31 g'34 g'35 g'33 g'2c g'22 ⟨_,_,F31,B7 X G a31,b31⟩
theorem walk{l:W.OpenLaw}{q:Am}{loose:List Str}{XP:(Str -> Option Value) -> Heap -> Prop}{YP:AB -> Heap -> Prop}{d:DefRec}{K:Params -> W.Frag}(hn:l.most=some 63)(hdf:d.params.defaults = [])
  (hY:∀(w:AB) (h:Heap),YP w h->(K w.params).In h)
  (F:∀(w:AB) (mg:Str->Option Value) (fa:Addr) (h:Heap),(K w.params).In h->h.Ns Au mg->mg d.name=some (.ref fa) ->
   ∃fd:A5,(∀(s:Ab) (u:Value),BindsTo s fd ⟨[u],[]⟩ [("_law_script",u)])/\∀base:Heap,(K w.params).In base->base.Ns Au mg->FnOk l.prog w (K w.params) mg base CX0 8 fa fd ["_law_script"] (spLaw (K w.params))) :
  W.WalkO q loose XP YP l.row.toRowW d [] (λf vs=>PySem.call f vs) :=
 L2.walk_of (n:=63) (k:=8) (x:="_law_script") (CX:=λ_=>CX0) (sp:=λw=>spLaw (K w.params)) hn (by decide) hdf ⟨rfl,by decide,by decide,rfl⟩ hY F (λ_ _ a ns hl _ hS=>⟨a,ns,rfl,hS,hl,λ_=>rfl⟩) λ_ _ _ _ _ z=>z
end RR
namespace PySem.W.Fast
noncomputable def tw15145819296899020355:=()
noncomputable def tw17123915744510475817:=()
noncomputable def tw13127315016453408213:=()
noncomputable def tw13381446027880091107:=()
noncomputable def tw14815719510306140039:=()
noncomputable def tw14319408237874778321:=()
noncomputable def tw7175688157508524069:=()
noncomputable def tw14078866291776679871:=()
noncomputable def tw10286579162014679016:=()
noncomputable def tw2571167355004813882:=()
noncomputable def tw2602971202876355800:=()
noncomputable def tw10174247515196359136:=()
noncomputable def tw17946943854030067128:=()
noncomputable def tw7641888400053609642:=()
noncomputable def tw6320893348394761187:=()
noncomputable def tw8175194798087501990:=()
noncomputable def tw2770983427037776680:=()
noncomputable def tw2030985979291380464:=()
noncomputable def tw7391857401989038701:=()
noncomputable def tw18217091498432455444:=()
noncomputable def tw7005297099076875894:=()
noncomputable def tw11825006277769269409:=()
noncomputable def tw16801497508456857298:=()
noncomputable def tw1393042781826227429:=()
noncomputable def tw10168965289399407312:=()
noncomputable def tw14170810723893042200:=()
noncomputable def tw3534680692311017402:=()
noncomputable def tw12734937885882926922:=()
noncomputable def tw10789210914402083862:=()
noncomputable def tw10536929862671262928:=()
noncomputable def tw14657194667849096006:=()
noncomputable def tw2028711410593375575:=()
noncomputable def tw494641449581821690:=()
noncomputable def tw6695063878693809237:=()
noncomputable def tw12110411029081785929:=()
noncomputable def tw17096634951791643688:=()
noncomputable def tw7475822059162049525:=()
noncomputable def tw2694180629157960944:=()
noncomputable def tw17574548974660051985:=()
noncomputable def tw9680935946139260920:=()
noncomputable def tw8278881755702780463:=()
noncomputable def tw4220302315092742676:=()
noncomputable def tw2726162268031395969:=()
noncomputable def tw9559971677931261362:=()
noncomputable def tw2742568087196504669:=()
noncomputable def tw12519509838543118018:=()
noncomputable def tw6217430948216988339:=()
noncomputable def tw12143454081609020349:=()
noncomputable def tw3943846046178649263:=()
noncomputable def tw12351319131758802543:=()
noncomputable def tw12096395383877890586:=()
noncomputable def tw3656127704303398140:=()
noncomputable def tw10403338946433597557:=()
noncomputable def tw17705387560951801758:=()
noncomputable def tw394119891748439303:=()
noncomputable def tw3860921210053640494:=()
noncomputable def tw15201335333204145329:=()
noncomputable def tw2910771467678144212:=()
noncomputable def tw8537527776852526124:=()
noncomputable def tw15287292817163576555:=()
noncomputable def tw4693272333493575918:=()
noncomputable def tw10115475409573209752:=()
noncomputable def tw15248813992382569538:=()
noncomputable def tw11322560672928897551:=()
noncomputable def tw5961042748552978649:=()
noncomputable def tw11251631918338787845:=()
noncomputable def tw16110557070686088578:=()
noncomputable def tw14423650571139206127:=()
noncomputable def tw10460301833317152791:=()
noncomputable def tw6615781022837319269:=()
noncomputable def tw9469518809821701795:=()
noncomputable def tw5781287367202601610:=()
noncomputable def tw8989211081571656426:=()
noncomputable def tw13821303774626167160:=()
noncomputable def tw15873816815184624947:=()
noncomputable def tw6293297308628412621:=()
noncomputable def tw4418334705438617807:=()
noncomputable def tw13461512880018960012:=()
noncomputable def tw13007084200038337666:=()
noncomputable def tw18149223277193983771:=()
noncomputable def tw16862213559180199568:=()
noncomputable def tw14356716456672134132:=()
noncomputable def tw6412803497919191682:=()
noncomputable def tw8579044465872967241:=()
noncomputable def tw14254231943967214409:=()
noncomputable def tw6599984075340513724:=()
noncomputable def tw17784788764972496335:=()
noncomputable def tw10179418905683632221:=()
noncomputable def tw213522477892985449:=()
noncomputable def tw3687712459922815818:=()
noncomputable def tw18120501828615823830:=()
noncomputable def tw16056861543647340805:=()
noncomputable def tw6148990598391100965:=()
noncomputable def tw9402594957380296817:=()
noncomputable def tw15320064100597056863:=()
noncomputable def tw14116880601708400657:=()
noncomputable def tw5145413323504144706:=()
noncomputable def tw1776306049691515855:=()
noncomputable def tw4401287126212235597:=()
noncomputable def tw2367748924639631915:=()
noncomputable def tw1312033920481757265:=()
noncomputable def tw15827731638644410094:=()
noncomputable def tw5757147184070177850:=()
noncomputable def tw5667319439892965286:=()
noncomputable def tw16899482926025958587:=()
noncomputable def tw627488939306145807:=()
noncomputable def tw1316811672975233406:=()
noncomputable def tw4054792748314795082:=()
noncomputable def tw12163903469813761468:=()
noncomputable def tw11130797531553152555:=()
noncomputable def tw15098282275287076738:=()
noncomputable def tw6553499254804994907:=()
noncomputable def tw1034024389851413103:=()
noncomputable def tw17465769578258154079:=()
noncomputable def tw1864247913597199227:=()
noncomputable def tw769399548665211898:=()
noncomputable def tw8014736986485635182:=()
noncomputable def tw1080599171511639358:=()
noncomputable def tw16947381935744041189:=()
noncomputable def tw10804399015995886755:=()
noncomputable def tw9307866300845091091:=()
noncomputable def tw14941393763310695587:=()
noncomputable def tw12166636307672179026:=()
noncomputable def tw11833206296707290913:=()
noncomputable def tw5818109260154504579:=()
noncomputable def tw7437022290836198324:=()
noncomputable def tw3613642550741621322:=()
noncomputable def tw4630857469417557065:=()
noncomputable def tw17662334675890824018:=()
noncomputable def tw8734912204778147212:=()
noncomputable def tw16762626986048459395:=()
noncomputable def tw13956257551446279342:=()
noncomputable def tw17045263104378035375:=()
noncomputable def tw3175832590257711697:=()
noncomputable def tw14647616578111997546:=()
noncomputable def tw6588688192377712979:=()
noncomputable def tw7899769939752638070:=()
noncomputable def tw15493441793590575266:=()
noncomputable def tw2245425067827810745:=()
noncomputable def tw14516962002707699194:=()
noncomputable def tw13666335148863617793:=()
noncomputable def tw5537570640320836899:=()
noncomputable def tw12634374272820092893:=()
noncomputable def tw16081154778852574690:=()
noncomputable def tw16144304876037507435:=()
noncomputable def tw14930456332707051885:=()
noncomputable def tw11219119999725817498:=()
noncomputable def tw17701078958199553007:=()
noncomputable def tw16466122859953409824:=()
noncomputable def tw8437731788970699944:=()
noncomputable def tw9306380432190286133:=()
noncomputable def tw9779492034754408565:=()
noncomputable def tw14664928266695011843:=()
noncomputable def tw18141439690443312224:=()
noncomputable def tw15232904417911957022:=()
noncomputable def tw12533061880157849753:=()
noncomputable def tw7988904186009907291:=()
noncomputable def tw6484385410518399605:=()
noncomputable def tw8071227572136839093:=()
noncomputable def tw14739086309922173486:=()
noncomputable def tw7585713475166713013:=()
noncomputable def tw17838399789167751973:=()
noncomputable def tw2168828828622678578:=()
noncomputable def tw14325974794610496158:=()
noncomputable def tw8281220560703611488:=()
noncomputable def tw12277620638397482940:=()
noncomputable def tw15917806254350794017:=()
noncomputable def tw8680088349031466469:=()
noncomputable def tw5086035521419501744:=()
noncomputable def tw5353159986038753908:=()
noncomputable def tw9365734453994875008:=()
noncomputable def tw11021431349376785461:=()
noncomputable def tw1697773565388114468:=()
noncomputable def tw17320591059534581896:=()
noncomputable def tw8286026639006717187:=()
noncomputable def tw4745583483148496966:=()
noncomputable def tw12855857407727231450:=()
noncomputable def tw2433892636825709602:=()
noncomputable def tw13131372046401912280:=()
noncomputable def tw17797890276825381869:=()
noncomputable def tw14827069972363270042:=()
noncomputable def tw2533303860536796668:=()
noncomputable def tw5801976212593944309:=()
noncomputable def tw1407414460452913774:=()
noncomputable def tw6485853470604947556:=()
noncomputable def tw5120316157970942928:=()
noncomputable def tw2828104606806343877:=()
noncomputable def tw11105178107856576338:=()
noncomputable def tw5836128924897788263:=()
noncomputable def tw8675902426900857596:=()
noncomputable def tw17662759044297290567:=()
noncomputable def tw5561984560927676956:=()
noncomputable def tw3987882578474216577:=()
noncomputable def tw16301592296316595852:=()
noncomputable def tw12607135418934449163:=()
noncomputable def tw10775890679968513274:=()
noncomputable def tw18376228460317652228:=()
noncomputable def tw5929803984934623582:=()
noncomputable def tw18383507541627189385:=()
noncomputable def tw16120376743580488848:=()
noncomputable def tw18189093539793032366:=()
noncomputable def tw13183934275358183872:=()
noncomputable def tw2435709269640290438:=()
noncomputable def tw2196008589038815947:=()
noncomputable def tw15421668679082521769:=()
noncomputable def tw8697273507482081532:=()
noncomputable def tw12288078476382561553:=()
noncomputable def tw9258107209826329875:=()
noncomputable def tw3179075291177162620:=()
noncomputable def tw13105473059559728739:=()
noncomputable def tw6630454898710868230:=()
noncomputable def tw13683304713206235947:=()
noncomputable def tw15598484531888339500:=()
noncomputable def tw12632589588441407394:=()
noncomputable def tw787418159935527561:=()
end PySem.W.Fast
open PySem PySem.W PyProof.Rows
set_option maxRecDepth 100000 in
set_option maxHeartbeats 0 in
theorem PySem.Challenge.cw_rimsteps_k85_drawn_texts_refused_holds : PySem.Challenge.rw_rimsteps_k85_drawn_texts_refused.Holds := by
 w_on;o_law;k_head;(case hw=>w_witness2)
 k_fill
 refine RR.walk (l:=PySem.Challenge.rw_rimsteps_k85_drawn_texts_refused) rfl rfl (λw h Y=>W.kIn_of Y) ?F
 case F =>
  intro w mg fa h KX G hmg
  refine' RR.all_mk KX G hmg (.mk ?a0 ?l0 ?c0 ?k0) (.mk ?a1 ?l1 ?c1 ?k1) (.mk ?a2 ?l2 ?c2 ?k2) (.mk ?a3 ?l3 ?c3 ?k3) (.mk ?a4 ?l4 ?c4 ?k4) (.mk ?a5 ?l5 ?c5 ?k5) (.mk ?a6 ?l6 ?c6 ?k6) (.mk ?a7 ?l7 ?c7 ?k7) (.mk ?a8 ?l8 ?c8 ?k8) (.mk ?a9 ?l9 ?c9 ?k9) (.mk ?a10 ?l10 ?c10 ?k10) (.mk ?a11 ?l11 ?c11 ?k11) (.mk ?a12 ?l12 ?c12 ?k12) (.mk ?a13 ?l13 ?c13 ?k13) (.mk ?a14 ?l14 ?c14 ?k14) (.mk ?a15 ?l15 ?c15 ?k15) (.mk ?a16 ?l16 ?c16 ?k16) (.mk ?a17 ?l17 ?c17 ?k17) (.mk ?a18 ?l18 ?c18 ?k18) (.mk ?a19 ?l19 ?c19 ?k19) (.mk ?a20 ?l20 ?c20 ?k20) (.mk ?a21 ?l21 ?c21 ?k21) (.mk ?a22 ?l22 ?c22 ?k22) (.mk ?a23 ?l23 ?c23 ?k23) (.mk ?a24 ?l24 ?c24 ?k24) (.mk ?a25 ?l25 ?c25 ?k25) (.mk ?a26 ?l26 ?c26 ?k26) (.mk ?a27 ?l27 ?c27 ?k27) (.mk ?a28 ?l28 ?c28 ?k28) (.mk ?a29 ?l29 ?c29 ?k29) (.mk ?a30 ?l30 ?c30 ?k30) ?a31 ?l31 ?c31 ?k31 ?xMS ?xMC ?xMF ?xFG ?xTW ?xNT ?xNR ?xRE ?xPW ?xNI ?xRD ?xPL ?xRL ?xEX ?xLC ?xIN ?xLF ?xCI ?xKI ?xMX ?xFN ?xKC ?xS1 ?xS3 ?xNA ?xNB ?xC1 ?xC7 ?xC8 ?xC2 ?xC3 ?xC4 ?xC5 ?xS2 ?xXT ?xKR ?xKV ?z_range ?z_len ?z_min ?z_max ?z_int ?z_str ?z_isinstance ?z_list ?z_abs ?z_reversed ?z_ValueError ?z_all ?z_tuple ?z_enumerate ?z_bool
  (case a0=>k_is)
  (case l0=>k_is)
  (case c0=>k_is)
  (case k0=>k_is)
  (case a1=>k_is)
  (case l1=>k_is)
  (case c1=>k_is)
  (case k1=>k_is)
  (case a2=>k_is)
  (case l2=>k_is)
  (case c2=>k_is)
  (case k2=>k_is)
  (case a3=>k_is)
  (case l3=>k_is)
  (case c3=>k_is)
  (case k3=>k_is)
  (case a4=>k_is)
  (case l4=>k_is)
  (case c4=>k_is)
  (case k4=>k_is)
  (case a5=>k_is)
  (case l5=>k_is)
  (case c5=>k_is)
  (case k5=>k_is)
  (case a6=>k_is)
  (case l6=>k_is)
  (case c6=>k_is)
  (case k6=>k_is)
  (case a7=>k_is)
  (case l7=>k_is)
  (case c7=>k_is)
  (case k7=>k_is)
  (case a8=>k_is)
  (case l8=>k_is)
  (case c8=>k_is)
  (case k8=>k_is)
  (case a9=>k_is)
  (case l9=>k_is)
  (case c9=>k_is)
  (case k9=>k_is)
  (case a10=>k_is)
  (case l10=>k_is)
  (case c10=>k_is)
  (case k10=>k_is)
  (case a11=>k_is)
  (case l11=>k_is)
  (case c11=>k_is)
  (case k11=>k_is)
  (case a12=>k_is)
  (case l12=>k_is)
  (case c12=>k_is)
  (case k12=>k_is)
  (case a13=>k_is)
  (case l13=>k_is)
  (case c13=>k_is)
  (case k13=>k_is)
  (case a14=>k_is)
  (case l14=>k_is)
  (case c14=>k_is)
  (case k14=>k_is)
  (case a15=>k_is)
  (case l15=>k_is)
  (case c15=>k_is)
  (case k15=>k_is)
  (case a16=>k_is)
  (case l16=>k_is)
  (case c16=>k_is)
  (case k16=>k_is)
  (case a17=>k_is)
  (case l17=>k_is)
  (case c17=>k_is)
  (case k17=>k_is)
  (case a18=>k_is)
  (case l18=>k_is)
  (case c18=>k_is)
  (case k18=>k_is)
  (case a19=>k_is)
  (case l19=>k_is)
  (case c19=>k_is)
  (case k19=>k_is)
  (case a20=>k_is)
  (case l20=>k_is)
  (case c20=>k_is)
  (case k20=>k_is)
  (case a21=>k_is)
  (case l21=>k_is)
  (case c21=>k_is)
  (case k21=>k_is)
  (case a22=>k_is)
  (case l22=>k_is)
  (case c22=>k_is)
  (case k22=>k_is)
  (case a23=>k_is)
  (case l23=>k_is)
  (case c23=>k_is)
  (case k23=>k_is)
  (case a24=>k_is)
  (case l24=>k_is)
  (case c24=>k_is)
  (case k24=>k_is)
  (case a25=>k_is)
  (case l25=>k_is)
  (case c25=>k_is)
  (case k25=>k_is)
  (case a26=>k_is)
  (case l26=>k_is)
  (case c26=>k_is)
  (case k26=>k_is)
  (case a27=>k_is)
  (case l27=>k_is)
  (case c27=>k_is)
  (case k27=>k_is)
  (case a28=>k_is)
  (case l28=>k_is)
  (case c28=>k_is)
  (case k28=>k_is)
  (case a29=>k_is)
  (case l29=>k_is)
  (case c29=>k_is)
  (case k29=>k_is)
  (case a30=>k_is)
  (case l30=>k_is)
  (case c30=>k_is)
  (case k30=>k_is)
  (case a31=>k_is)
  (case l31=>k_is)
  (case c31=>k_is)
  (case k31=>k_is)
  (case xMS=>k_is)
  (case xMC=>k_is)
  (case xMF=>k_is)
  (case xFG=>k_is)
  (case xTW=>k_is)
  (case xNT=>k_is)
  (case xNR=>k_is)
  (case xRE=>k_is)
  (case xPW=>k_is)
  (case xNI=>k_is)
  (case xRD=>k_is)
  (case xPL=>k_is)
  (case xRL=>k_is)
  (case xEX=>k_exc)
  (case xLC=>k_is)
  (case xIN=>k_is)
  (case xLF=>k_is)
  (case xCI=>k_is)
  (case xKI=>k_is)
  (case xMX=>with_unfolding_all exact rfl)
  (case xFN=>exact rfl)
  (case xKC=>k_is)
  (case xS1=>exact rfl)
  (case xS3=>k_is)
  (case xNA=>k_is)
  (case xNB=>k_is)
  (case xC1=>k_is)
  (case xC7=>k_is)
  (case xC8=>k_is)
  (case xC2=>k_is)
  (case xC3=>k_is)
  (case xC4=>k_is)
  (case xC5=>k_is)
  (case xS2=>k_is)
  (case xXT=>exact rfl)
  (case xKR=>exact rfl)
  (case xKV=>exact rfl)
  (case z_range=>k_is)
  (case z_len=>k_is)
  (case z_min=>k_is)
  (case z_max=>k_is)
  (case z_int=>k_is)
  (case z_str=>k_is)
  (case z_isinstance=>k_is)
  (case z_list=>k_is)
  (case z_abs=>k_is)
  (case z_reversed=>k_is)
  (case z_ValueError=>k_is)
  (case z_all=>k_is)
  (case z_tuple=>k_is)
  (case z_enumerate=>k_is)
  (case z_bool=>k_is)

import PyProof.Rows.All
import Wide.All
import OpenK.AllK
import Wide.FinOn
import Lean
import PyProof.EqAt
import PyProof.EqKinds
import PyProof.TupleCall
import PyProof.P3In
import PyProof.Rows.EqDataRows
import KE.KTryMore
import PyProof.SetScanFacts
import PyProof.Rows.SetFrom
import PyProof.SetRoads
import KE.KSortAsk
import KE.KSortTup
import KE.KRevIter
import PyProof.ZipIter
import PySem.Challenge.RW_snugfit_k31_whole_pushes
set_option Elab.async false
set_option linter.all false
set_option maxRecDepth 100000
set_option maxHeartbeats 8000000
set_option compiler.extract_closed false
noncomputable section
set_option genSizeOf false
set_option genInjectivity false
local macro_rules | `(tactic| omega) => `(tactic| first | (with_reducible assumption) | (with_reducible refine Nat.le_trans (by assumption) ?_; decide) | (with_reducible refine Nat.lt_of_lt_of_le ?_ (by assumption); decide) | lia)
open PySem.W renaming Frag→vE
set_option hygiene false in
local macro_rules|`(~~~$x)=>`(some (.sh $x))|`(∅)=>`(List D->Option W)
local macro_rules|`(#v[$xs,*])=>do let r:Lean.TSyntax `term<-xs.getElems.foldrM (λ x a=>`(.cons $x $a)) (<-`(.nil));return r
theorem vA{p:Prop}(h:p:=by decide):p:=h
theorem vB{p:Prop}(h:p:=by omega):p:=h
theorem vC{p:Prop}(h:p:=by simp):p:=h
theorem vD{p:Prop}(h:p:=by exact ⟨rfl,rfl,rfl,by decide +kernel,rfl,by decide +kernel,by decide +kernel⟩):p:=h
open Option renaming bind_eq_some_iff→Za,map_eq_some_iff→Zb,bind_some→Zv,map_some→Wy,getD_some→Km,bind_none→Ur,isSome_iff_exists→Va,getD_none→Gd
open List renaming length_map→Zc,mem_cons→Zf,getElem?_eq_some_iff→Zi,getElem?_eq_getElem→Zj,not_mem_nil→Zk,getElem?_map→Zm,size_toArray→Zr,mem_map→Zt,length_cons→Zw,mem_singleton→Zx,map_cons→Zy,length_range→Z3,getElem?_set_ne→Z7,length_append→Z8,getElem?_set_self→Ya,getElem?_append_left→Yc,getElem?_append_right→Ye,getD_eq_getElem?_getD→Yf,map_map→Yg,mem_of_getElem?→Yh,map_append→Yl,mem_range→Ym,mem_append_right→Yn,length_drop→Yr,mem_cons_of_mem→Yv,mem_append→Yw,length_replicate→Yz,sum_cons→Y4,map_congr_left→Y5,getElem?_eq_none→Y6,getElem?_cons_succ→Y7,length_take→Wb,pairwise_cons→We,getElem?_replicate→Wf,mem_map_of_mem→Wl,nodup_cons→Wo,map_nil→Wp,length_set→Wq,mem_cons_self→Wu,pairwise_singleton→Wx,length_reverse→W3,length_zipIdx→W6,all_cons→W7,getElem_of_mem→Qf,getElem?_cons_zero→Qg,lookup_cons→Qj,ext_getElem?→Qv,mem_append_left→Qw,getElem?_of_mem→Qx,getElem?_zip_eq_some→Q3,sum_nil→Q7,append_nil→Kc,take_of_length_le→Ke,pairwise_map→Kf,getElem_mem→Kq,getElem_inj→Kr,mem_filter→Ku,length_nil→Kv,forIn_cons→Kw,filterMap_cons→Kx,pairwise_iff_getElem→Jb,getLast?_eq_getElem?→Jc,drop_eq_getElem_cons→Jd,getElem?_take_of_lt→Jh,length_eq_zero_iff→Jj,take_length→Jl,mem_reverse→Jm,length_zip→Jr,length_singleton→Js,pairwise_append→Jv,take_succ→Jz,forIn_nil→J0,getElem_zipIdx→J3,getElem?_range→Ua,mem_filterMap→Uf,map_take→Ug,getElem?_drop→Uh,findIdx?_eq_some_iff_getElem→Ui,nodup_append→Us,zipIdx_cons→Uu,getElem_map→Uv,all_eq_true→Uw,of_mem_zip→U3,nodup_iff_pairwise_ne→Vc,nodup_nil→Vi,drop_zero→Vj,map_drop→Vr,getElem?_reverse→Vt,eraseIdx_sublist→Vu,replicate_succ→V6,length_pos_iff→V7,reverse_cons→Gp,filter_cons→G0,drop_length→G5,any_eq_true→G6
open PySem renaming wpAny_bind→Zd,wpAny_pure→Zu,wpAny_field→Wa,wpAny_seqItems→Wj,wpAny_holding→Qn,wpAny_setField_rec→Qt,wpAny_Call_Name_kw→Qu,wpAny_updateSeq→Qz,wpAny_passesOwn→Q0,wpAny_truthy_bool→Q5,mem_of_lookup→Q6,wpAny_call_entry→Kb,plainId_quiet→Kg,codeAny_builtin→Kh,wpAny_letGo→Je,wpAny_rule→Jo,wpAny_newObj_type→Jp,wpAny_nextOf_list_item→Jx,wpAny_execs_nil→Ub,wpAny_tryCatch→Uq,wpAny_standAt→Uy,wpAny_attempt→Uz,wpAny_pyIter_list→U7,wpAny_mono→U8,codeAny_mono→Vg,wpAny_pyIter_zip→Vm,wpAny_comprehension_free→V5,wpAny_onRaise→Ga,sizeLine_eq→Gc,wpAny_nextOf_list_end→Gv,seqIndex_neg→Gw,builtinLookup_eq_fast→Gx
open PySem.Heap renaming get?_push_of_some→Ze,lt_size→Zo,get?_push_size→Z4,get?_update_other→Yu,get?_update_self→Wr,size_push→Ql,size_update→Ks,get?_none_of_le→Jw
open Nat renaming lt_of_lt_of_le→Zg,mod_eq_of_lt→Zh,le_refl→Zn,ne_of_gt→Yd,ne_of_lt→Yj,lt_or_ge→Yk,add_mod_right→Yo,zero_le→Y8,le_trans→Y9,le_add_right→Wc,lt_of_le_of_lt→Wg,mod_lt→Wi,lt_irrefl→Wm,lt_succ_self→Ww,mod_add_mod→W4,zero_add→W8,zero_mod→Q8,lt_succ_of_lt→Kk,succ_pos→K7,mod_self→K8,mod_eq_sub_mod→K9,add_sub_cancel→Ja,mod_mod→Jk,min_eq_left→Ju,le_succ→Uc,add_mod→Ud,eq_zero_or_pos→Ul,le_of_lt→Ut,succ_ne_self→U1,mul_one→Vb,sub_zero→Vy,pow_succ→Vz,le_of_eq→V0,add_comm→V3,mul_le_mul_left→Ge,mul_add→Gf,add_sub_assoc→Gz
open Bool renaming and_eq_true→Zl,false_ne_true→Z0,false_eq_true→Wv,eq_iff_iff→Ky,eq_false_iff→Ji,or_eq_true→U6,beq_eq_decide_eq→Vv
open Rat renaming mul_nonneg→Zp,mul_pos→Zq,le_of_lt→Z5,intCast_lt_intCast→Yb,intCast_mul→Yi,num_divInt_den→Yp,mul_eq_zero→Ws,le_refl→Qb,intCast_eq_zero_iff→Qi,mul_inv_cancel→Qp,divInt_mul_divInt→Qs,sub_eq_add_neg→Kd,div_def→Ki,divInt_eq_div→Kj,le_trans→Kn,divInt_add_divInt→Ko,one_mul→Kz,inv_pos→K0,intCast_sub→K3,intCast_add→K4,intCast_le_intCast→Jq,mul_assoc→Uj,inv_mul_cancel→Uk,mkRat_self→Vn,divInt_eq_divInt_iff→Vq,mul_comm→Vx,intCast_natCast→Gb,div_mul_cancel→Gn,lt_iff→Gy
open Option.some renaming inj→Zs
open Int renaming toNat_natCast→Zz,mul_fdiv_cancel_left→Z6,natAbs_mul→Z9,natAbs_natCast→Yq,mul_ne_zero→Ys,natCast_nonneg→Yx,mul_nonneg→Yy,gcd_dvd_right→Wd,mul_pos→Wh,dvd_trans→Wn,emod_nonneg→Wt,mul_nonpos_of_nonneg_of_nonpos→W5,le_of_lt→W9,gcd_eq_one_iff→Qa,natAbs_mul_self'→Qd,mul_le_mul_of_nonneg_right→Qh,gcd_dvd_left→Qk,emod_lt_of_pos→Qq,fmod_eq_emod_of_nonneg→Qy,gcd_mul_right_right_of_gcd_eq_one→Q1,mul_comm→Q9,dvd_mul_of_dvd_right→Ka,not_lt→Kl,natCast_pos→K5,eq_of_mul_eq_mul_right→K6,natAbs_neg→Jg,mul_dvd_mul_left→J1,mul_one→Ue,mul_assoc→Um,lt_irrefl→Uo,zero_add→Ux,mul_eq_zero→Vd,dvd_coe_gcd→Ve,fdiv_eq_ediv_of_nonneg→Vk,mul_neg_of_pos_of_neg→Vo,zero_dvd→V4,toNat_of_nonneg→Gg,one_mul→Gh,le_refl→Gi,natAbs_add_le→G7,lt_trichotomy→G8,emod_eq_of_lt→G9
open Prod renaming ext→Yt
open Classical renaming byContradiction→Y0
open PyProof.Rows renaming callWith_type1→Y3,assignInOrder_cons→U0,subscriptTail_builtinR→Gm
open Ne renaming symm→Wz
open PySem.Around renaming under_plainId→Qc,in1_units→Gk
open PySem.F renaming slot_zip_next→Qe,plain_extend_loop→Qm,plain_min_loop→Qo,slot_tuple_iterator_next→Q4,plainAttrs_list→Jf,args_zip_next_1→Jn,entry_zip_next→Jt,entry_extend_loop→Up,slot_list_index→U9,entry_min_loop→Vf,args_tuple_iterator_next_1→Vl,entry_tuple_iterator_next→Vp
open List.Pairwise renaming imp_of_mem→Qr
open Array renaming getElem?_eq_getElem→Q2,length_toList→J2,mem_toList_iff→Vw,forIn_toList→V9,toList_inj→Gu
open PySem.W renaming kia_one→Kt,mg_of→Jy,cellsFrom_some→Vh,callWith_K→Vs
open PySem.AutoSeq1 renaming wpAny_loadPart'→U2
open PySem.Heap.SameBut renaming update→U4
open PySem.Calls renaming Name_function_global→U5,spliced_cons→V8,spliced_nil→Gj
open PySem.Obj renaming data_mapFields→Go
open Decidable renaming em→Gq
namespace L2
open PySem PySem.Spec PyProof.Rows
abbrev Key:=Sum Int Str
def keyIs:Key->Value->Bool
 |.inl k,v=>Value.isInt k v
 |.inr x,v=>Value.isStrOf x v
def L4(w:World):Key->Int
 |.inl k=>hashInt k
 |.inr x=>hashStr w x
theorem cT:∀{k:Key}{v:Value},keyIs k v=true->(∃i t,k=Sum.inl i/\v=Value.int i t)\/(∃x t,k=Sum.inr x/\v=Value.str x t)
 |.inl i,v,h=>by
  obtain⟨t,e⟩:=Value.isInt_shape (k:=i) (v:=v) h
  exact .inl ⟨i,t,rfl,e⟩
 |.inr x,v,h=>by
  obtain⟨t,e⟩:=Value.isStrOf_shape (x:=x) (v:=v) h
  exact .inr ⟨x,t,rfl,e⟩
def He(a b:Int):decide ((Sum.inl a:Key)=Sum.inl b)=(a == b):=by
 by_cases e:a=b
 ·subst e;simp
 ·have h:¬(Sum.inl a:Key)=Sum.inl b:=λq=>e (Sum.inl.inj q)
  rw[decide_eq_false h];exact(beq_eq_false_iff_ne.mpr e).symm
def G3(a b:Str):decide ((Sum.inr a:Key)=Sum.inr b)=decide (a=b):=by
 by_cases e:a=b
 ·subst e;simp
 ·have h:¬(Sum.inr a:Key)=Sum.inr b:=λq=>e (Sum.inr.inj q)
  rw[decide_eq_false h,decide_eq_false e]
def Hc(a:Int)(b:Str):decide ((Sum.inl a:Key)=Sum.inr b)=false:=decide_eq_false (λq=>nomatch q)
def G4(a:Str)(b:Int):decide ((Sum.inr a:Key)=Sum.inl b)=false:=decide_eq_false (λq=>nomatch q)
def mC(d:Program)(w:World):PySem.KeyKind d w Key where
 is:=keyIs
 hash:=L4 w
 inj:=λv a b m l=>by
  rcases cT m with⟨i,t,rfl,rfl⟩|⟨x,t,rfl,rfl⟩
  ·rcases cT l with⟨j,u,rfl,e⟩|⟨y,u,rfl,e⟩
   ·injection e with f _;rw[f]
   ·exact nomatch e
  ·rcases cT l with⟨j,u,rfl,e⟩|⟨y,u,rfl,e⟩
   ·exact nomatch e
   ·injection e with f _;rw[f]
 byValue:=λk v h=>by
  rcases cT h with⟨i,t,rfl,rfl⟩|⟨x,t,rfl,rfl⟩<;>rfl
 pyHash:=λg h=>by
  rcases cT g with⟨i,t,rfl,rfl⟩|⟨x,t,rfl,rfl⟩
  ·exact wpAny_pyHash_int h
  ·exact wpAny_pyHash_str h
 eqBool:=λn g h=>by
  rcases cT n with⟨i,t,rfl,rfl⟩|⟨x,t,rfl,rfl⟩
  ·rcases cT g with⟨j,u,rfl,rfl⟩|⟨y,u,rfl,rfl⟩
   ·rw[He] at h;exact wpAny_eqBool_int h
   ·rw[Hc] at h;exact SeqAt.EqAt.int_str i t y u _ _ _ _ h
  ·rcases cT g with⟨j,u,rfl,rfl⟩|⟨y,u,rfl,rfl⟩
   ·rw[G4] at h;exact SeqAt.EqAt.str_int x t j u _ _ _ _ h
   ·rw[G3] at h;exact wpAny_eqBool_str h
 «strs» := λk x t v h=>by
  rcases cT h with⟨i,u,rfl,e⟩|⟨y,u,rfl,e⟩
  ·exact nomatch e
  ·injection e with f _
   subst f;cases v<;>rfl
set_option genInjectivity true in
inductive V where
 |non|bl (b:Bool)|int (i:Int)|str (x:Str)|byt (b:Array UInt8)|flt (b:UInt64)|ref (a:Addr)|ty (n:String)
 deriving DecidableEq
def RelV:V->Value->Prop
 |.non,u=>u=Value.none
 |.bl b,u=>u=Value.bool b
 |.int i,u=>∃t,u=Value.int i t
 |.str x,u=>∃t,u=Value.str x t
 |.byt b,u=>∃t,u=Value.bytes b t
 |.flt b,u=>∃t,u=Value.float b t
 |.ref a,u=>u=Value.ref a
 |.ty n,u=>u=Value.type n
abbrev Vals:List V->List Value->Prop:=Paired RelV
theorem Vals.length{d:List V}{us:List Value}(r:Vals d us):d.length=us.length:=Paired.length r
theorem Vals.get:∀{d:List V}{us:List Value}{i:Nat}{x:V},Vals d us->d[i]? = some x->∃u,us[i]? = some u/\RelV x u
 |_,_,_,_,.nil,e=>by simp at e
 |_,_,0,_,.cons r _,e=>by simp at e;subst e;exact⟨_,rfl,r⟩
 |_,_,i+1,x,.cons _ t,e=>by
  obtain⟨u,f,g⟩:=Vals.get (i:=i) (x:=x) t (by simpa using e)
  exact⟨u,by simpa using f,g⟩
theorem Vals.set{x:V}{u:Value}(r:RelV x u):∀{d:List V}{us:List Value}(i:Nat),Vals d us->Vals (d.set i x) (us.set i u)
 |_,_,_,.nil=>.nil
 |_,_,0,.cons _ t=>.cons r t
 |_,_,i+1,.cons q t=>.cons q (Vals.set r i t)
theorem Vals.append:∀{d e:List V}{us f:List Value},Vals d us->Vals e f->Vals (d++e) (us++f)
 |_,_,_,_,.nil,s=>s
 |_,_,_,_,.cons r t,s=>.cons r (Vals.append t s)
theorem Vals.take:∀{d:List V}{us:List Value}(n:Nat),Vals d us->Vals (d.take n) (us.take n)
 |_,_,0,_=>.nil
 |_,_,_+1,.nil=>.nil
 |_,_,n+1,.cons r t=>.cons r (Vals.take n t)
theorem Vals.drop:∀{d:List V}{us:List Value}(n:Nat),Vals d us->Vals (d.drop n) (us.drop n)
 |_,_,0,r=>r
 |_,_,_+1,.nil=>.nil
 |_,_,n+1,.cons _ t=>Vals.drop n t
def RelO:Option V->Option Value->Prop
 |some v,some u=>RelV v u
 |none,none=>True
 |_,_=>False
def KV{d:Type}:List (d×V)->List (d×Value)->Prop:=Paired λ(p:d×V) (q:d×Value)=>p.1=q.1/\RelV p.2 q.2
def kV:Key->V
 |.inl i=>.int i
 |.inr x=>.str x
inductive HO where
  |lst(xs:List V)
  |tup(xs:List V)
  |dK(kvs:List (Key×V))|dT(kvs:List (List Key×V))
  |set(S:Int->Bool)(n:Nat)
  |ins(C dx:Addr)(fs:List (Str×V))
  |own(x:Addr)
  |xd(fs:List (Str×V))
  |met(f x:Addr)
  |rng(lo hi:Int)
  |frz(o:Obj)(u:HO)
  |tbl(ps:Array Value)
  |ext(φ:Heap->Prop)
abbrev Hp:=Addr->Option HO
def upd(H:Hp)(a:Addr)(o:HO):Hp:=λb=>if b=a then some o else H b
def Bh{H:Hp}{a:Addr}{o:HO}:upd H a o a=some o:=by unfold upd;rw[if_pos rfl]
def Bg{H:Hp}{a b:Addr}{o:HO}(h:b≠a):upd H a o b=H b:=by unfold upd;rw[if_neg h]
def ia{H:Hp}{a:Addr}{o u:HO}:upd (upd H a o) a u=upd H a u:=by
 funext b;unfold upd;split<;>rfl
def fO{H:Hp}{a b:Addr}{o:HO}(h:H a=some o)(d:H b=none):a≠b:=by
 intro e;subst e;rw[h] at d;cases d
section
variable(P:Program)(w:World)
def ObjOk(H:Hp)(h:Heap)(a:Addr):HO->Prop
 |.lst g=>g.length<=sizeLine/\∃(d:List Value) (n:Nat),Vals g d/\h.get? a=some {cls:=.type "list",data:=.seq d.toArray n}
 |.tup g=>g.length<=sizeLine/\∃d:List Value,Vals g d/\IsTup h a d.toArray
 |.dK e=>e.length<=sizeLine/\(a == sysModules)=false/\∃r,KV e r/\h.DictOf (mC P w) a r
 |.dT e=>e.length<=sizeLine/\(a == sysModules)=false/\∃g:List (List Key×Addr×Value),
   Paired (λ(p:List Key×V) (q:List Key×Addr×Value)=>p.1=q.1/\H q.2.1=some (.tup (p.1.map kV))/\RelV p.2 q.2.2) e g /\
   ∃o s B,h.get? a=some o/\o.ExactDict/\o.data=.dict s B/\s.toList=g.map (entryOfKey (tupleKind (mC P w)))/\(g.map (·.1)).Nodup
 |.set S n=>h.SetOf (intKind P w) a S n
 |.ins C l j=>H l=some (.own a)/\j.length<=1000/\l≠a/\h.get? a=some (PySem.W.instObj C l) /\
   ∃i,h.Ns1 l i/\(∀f,RelO (j.lookup f) (i f))/\PySem.Within i (j.map (·.1))
 |.own _=>∃o,h.get? a=some o
 |.xd j=>∃i,h.Ns1 a i/\∀f,RelO (j.lookup f) (i f)
 |.rng lo D=>∃t u v,h.get? a=some {cls:=.type "range",data:=.fields #[.int lo t,.int D u,.int 1 v]}
 |.frz o u=>h.get? a=some o/\ObjOk H h a u
 |.tbl ps=>h.get? a=some {cls:=.none,data:=.fields ps}
 |.met f x=>h.get? a=some (PySem.W.methodObj (.ref f) (.ref x))
 |.ext m=>m h/\(∃o,h.get? a=some o)/\∀z A:Heap,m z->(∀o,z.get? a=some o->A.get? a=some o)->m A
def HOk(H:Hp)(h:Heap):Prop:=∀a o,H a=some o->ObjOk P w H h a o
end
section
variable{P:Program}{w:World}{H H':Hp}{h h':Heap}{a:Addr}{o:HO}
theorem ObjOk.lt(x:ObjOk P w H h a o):a<h.objs.size:=by
 cases o with
 |lst g=>obtain⟨_,_,_,_,e⟩:=x;exact Zo e
 |tup g=>obtain⟨_,_,_,p⟩:=x;exact p.lt
 |dK d=>obtain⟨_,_,_,_,o,_,_,e,_⟩:=x;exact Zo e
 |dT d=>obtain⟨_,_,_,_,o,_,_,e,_⟩:=x;exact Zo e
 |set S n=>obtain⟨o,_,_,_,e,_⟩:=x;exact Zo e
 |ins C j i=>obtain⟨_,_,_,e,_⟩:=x;exact Zo e
 |own y=>obtain⟨_,e⟩:=x;exact Zo e
 |xd i=>obtain⟨_,⟨_,_,_,e,_⟩,_⟩:=x;exact Zo e
 |rng lo l=>obtain⟨_,_,_,e⟩:=x;exact Zo e
 |frz m u=>obtain⟨e,_⟩:=x;exact Zo e
 |tbl ps=>exact Zo (show h.get? a=some _ from x)
 |met f y=>exact Zo (show h.get? a=some _ from x)
 |ext q=>obtain⟨_,⟨_,e⟩,_⟩:=x;exact Zo e
def Paired.mapP{g i:Type}{F G:g->i->Prop}:∀{d:List g}{e:List i},Paired F d e->(∀a b,F a b->G a b)->Paired G d e:=λh f=>by
 induction h with
 |nil=>exact .nil
 |cons r t j=>exact .cons (f _ _ r) j
def ObjOk.stay(x:ObjOk P w H h a o)(k:∀b u,(b=a\/H b=some (.own a))->h.get? b=some u->h'.get? b=some u)
 (D:∀b,H b=some (.own a)->H' b=some (.own a))(E:∀b m,H b=some (.tup m)->H' b=some (.tup m)):ObjOk P w H' h' a o:=by
 induction o with
 |lst m=>obtain⟨z,l,n,r,e⟩:=x;exact⟨z,l,n,r,k _ _ (.inl rfl) e⟩
 |tup m=>obtain⟨z,l,r,g,e,c⟩:=x;exact⟨z,l,r,g,k _ _ (.inl rfl) e,c⟩
 |dK s=>obtain⟨z,y,F,r,g,i,j,e,c⟩:=x;exact⟨z,y,F,r,g,i,j,k _ _ (.inl rfl) e,c⟩
 |dT s=>
  obtain⟨z,y,m,r,g,i,j,e,c⟩:=x
  exact⟨z,y,m,Paired.mapP r λp q z=>⟨z.1,E _ _ z.2.1,z.2.2⟩,g,i,j,k _ _ (.inl rfl) e,c⟩
 |set S n=>obtain⟨g,i,j,t,e,c⟩:=x;exact⟨g,i,j,t,k _ _ (.inl rfl) e,c⟩
 |ins C L G=>
  obtain⟨d,z,I,e,A,⟨B,i,j,J,c⟩,r⟩:=x
  exact⟨D _ d,z,I,k _ _ (.inl rfl) e,A,⟨B,i,j,k _ _ (.inr d) J,c⟩,r⟩
 |own y=>obtain⟨g,e⟩:=x;exact⟨g,k _ _ (.inl rfl) e⟩
 |xd G=>obtain⟨A,⟨B,i,j,e,c⟩,r⟩:=x;exact⟨A,⟨B,i,j,k _ _ (.inl rfl) e,c⟩,r⟩
 |rng lo M=>obtain⟨t,u,v,e⟩:=x;exact⟨t,u,v,k _ _ (.inl rfl) e⟩
 |frz g u K=>obtain⟨e,q⟩:=x;exact⟨k _ _ (.inl rfl) e,K q⟩
 |tbl ps=>
  have e:h.get? a=some {cls:=.none,data:=.fields ps}:=x;show h'.get? a=some {cls:=.none,data:=.fields ps};exact k a _ (.inl rfl) e
 |met f y=>
  have e:h.get? a=some (PySem.W.methodObj (.ref f) (.ref y)):=x;show h'.get? a=some (PySem.W.methodObj (.ref f) (.ref y));exact k a _ (.inl rfl) e
 |ext N=>obtain⟨p,⟨o,e⟩,st⟩:=x;exact⟨st _ _ p λo q=>k _ _ (.inl rfl) q,⟨o,k _ _ (.inl rfl) e⟩,st⟩
theorem HOk.lt(x:HOk P w H h)(e:H a=some o):a<h.objs.size:=(x a o e).lt
def HOk.fresh(x:HOk P w H h)(e:h.objs.size<=a):H a=none:=by
 cases q:H a with
 |none=>rfl
 |some u=>exact absurd (Zg (x.lt q) e) (Wm _)
def HOk.kept(x:HOk P w H h)(k:∀b u,h.get? b=some u->h'.get? b=some u):HOk P w H h':=λa o e=>
 (x a o e).stay (λb u _ q=>k b u q) (λ_ q=>q) λ_ _ q=>q
def HOk.laid(x:HOk P w H h)(k:∀b u,h.get? b=some u->h'.get? b=some u)(i:h.objs.size<=a)(d:ObjOk P w (upd H a o) h' a o):HOk P w (upd H a o) h':=λb u e=>by
 have f:=x.fresh i;by_cases g:b=a
 ·subst g;rw[Bh] at e;cases e;exact d
 ·rw[Bg g] at e;exact(x b u e).stay (λc v _ q=>k c v q) (λc q=>by rw[Bg (fO q f)];exact q) λc j q=>by rw[Bg (fO q f)];exact q
end
def Rd(H:Hp)(a:Addr)(u:HO):Prop:=H a=some u\/∃o,H a=some (.frz o u)
def Rd.ok{P:Program}{w:World}{H:Hp}{h:Heap}{a:Addr}{u:HO}(r:Rd H a u)(x:HOk P w H h):ObjOk P w H h a u:=by
 rcases r with r|⟨o,r⟩
 ·exact x a u r
 ·obtain⟨_,q⟩:=x a _ r
  exact q
def Lv:Option HO->Prop
 |some (.lst _)=>True
 |some (.dK _)=>True
 |some (.dT _)=>True
 |some (.set _ _)=>True
 |some (.ins _ _ _)=>True
 |some (.ext _)=>True
 |_=>False
section
variable{P:Program}{w:World}{H:Hp}{h h':Heap}{x e:Addr}{o':HO}
def HOk.write(ok:HOk P w H h)(i:Lv (H x))(p:e=x\/H e=some (.own x))(k:∀b u,b≠e->h.get? b=some u->h'.get? b=some u)(n:∃u,h'.get? e=some u)
 (o:ObjOk P w (upd H x o') h' x o'):HOk P w (upd H x o') h':=λb u q=>by
 have f:∀c y,H c=some (.own y)->c≠x:=λc y r z=>by subst z;rw[r] at i;exact i
 have g:∀c j,H c=some (.tup j)->c≠x:=λc j r z=>by subst z;rw[r] at i;exact i
 by_cases l:b=x
 ·subst l;rw[Bh] at q;cases q;exact o
 ·rw[Bg l] at q;by_cases d:b=e
  ·have s:H b=some (.own x):=by
    rcases p with z|z
    ·exact absurd (d.trans z) l
    ·rw[d];exact z
   rw[q] at s;cases s;obtain⟨v,t⟩:=n
   exact⟨v,by rw[d];exact t⟩
  ·refine(ok b u q).stay (λc v m r=>k c v ?_ r) (λc r=>by rw[Bg (f c b r)];exact r) λc j r=>by rw[Bg (g c j r)];exact r
   rcases m with rfl|m
   ·exact d
   ·rintro rfl
    rcases p with z|z
    ·exact f c b m z
    ·rw[m] at z;cases z;exact l rfl
end
structure Un(fs ex:List Addr)(H H':Hp)(h h':Heap):Prop where
 keep:∀b o,h.get? b=some o->H b=none->b∉fs->b∉ex->h'.get? b=some o
 slot:∀b o,h.get? b=some o->H b=none->b∈fs->b∉ex->∃sl,h'.get? b=some {o with slots:=sl}
 free:∀b o,h.get? b=some o->H b=none->b∉ex->H' b=none
 there:∀b o,h.get? b=some o->b∉ex->∃o',h'.get? b=some o'
 tups:∀b xs,H b=some (.tup xs)->H' b=some (.tup xs)
 frzs:∀b o u,H b=some (.frz o u)->H' b=some (.frz o u)
 tbls:∀b ps,H b=some (.tbl ps)->∃more,H' b=some (.tbl (ps++more))
section
variable{fs fs' ex ex':List Addr}{H H1 H2:Hp}{h h1 h2 h':Heap}{a x e:Addr}{o:HO}
def Un.any(u:Un fs ex H H1 h h1){b:Addr}{d:Obj}(q:h.get? b=some d)(n:H b=none)(e:b∉ex):∃g,h1.get? b=some {d with slots:=g}:=by
 by_cases f:b∈fs
 ·exact u.slot b d q n f e
 ·exact⟨d.slots,u.keep b d q n f e⟩
def Un.kept(k:∀b u,h.get? b=some u->h'.get? b=some u):Un fs ex H H h h':=
 ⟨λb d q _ _ _=>k b d q,λb d q _ _ _=>⟨d.slots,k b d q⟩,λ_ _ _ n _=>n,λb d q _=>⟨d,k b d q⟩,λ_ _ q=>q,λ_ _ _ q=>q,λ_ e q=>⟨#[],by rw[q];simp⟩⟩
def Un.refl:Un fs ex H H h h:=Un.kept λ_ _ q=>q
def Un.laid(k:∀b u,h.get? b=some u->h'.get? b=some u)(e:h.objs.size<=a)(d:H a=none):Un fs ex H (upd H a o) h h' where
 keep:=λb u q _ _ _=>k b u q
 slot:=λb u q _ _ _=>⟨u.slots,k b u q⟩
 free:=λb u q n _=>by rw[Bg (Yj (Zg (Zo q) e))];exact n
 there:=λb u q _=>⟨u,k b u q⟩
 tups:=λb f q=>by rw[Bg (fO q d)];exact q
 frzs:=λb u f q=>by rw[Bg (fO q d)];exact q
 tbls:=λb g q=>⟨#[],by rw[Bg (fO q d),q];simp⟩
def Un.write(f:Lv (H x))(m:e=x\/H e=some (.own x))(k:∀b u,b≠e->h.get? b=some u->h'.get? b=some u)(g:∃u,h'.get? e=some u):Un fs ex H (upd H x o) h h':=by
 have j:∀b,H b=none->b≠x:=λb n z=>by subst z;rw[n] at f;exact f
 have l:∀b,H b=none->b≠e:=λb n z=>by
  subst z;rcases m with r|r
  ·exact j b n r
  ·rw[n] at r;cases r
 have i:∀b u,H b=some u -> ¬Lv (some u)->b≠x:=λb u q p z=>by subst z;rw[q] at f;exact p f
 refine⟨λb u q n _ _=>k b u (l b n) q,λb u q n _ _=>⟨u.slots,k b u (l b n) q⟩,λb u q n _=>by rw[Bg (j b n)];exact n,λb u q _=>?_,
  λb s q=>by rw[Bg (i b _ q λz=>z)];exact q,λb u s q=>by rw[Bg (i b _ q λz=>z)];exact q,λb t q=>⟨#[],by rw[Bg (i b _ q λz=>z),q];simp⟩⟩
 by_cases d:b=e
 ·subst d;exact g
 ·exact⟨u,k b u d q⟩
end
def Lp(h:Heap)(H:Hp):List Addr:=(List.range h.objs.size).filter λa=>(H a).isSome
def Dt(h:Heap)(H:Hp):Heap:=PySem.W.hideAll h (Lp h H)
def qI(h:Heap)(H:Hp):(Dt h H).objs.size=h.objs.size:=PySem.W.hideAll_size _ _
def qJ{h:Heap}{H:Hp}{b:Addr}{o:Obj}(e:h.get? b=some o)(n:H b=none):(Dt h H).get? b=some o:=
 PySem.W.hideAll_get _ e λd=>by
  have q:(H b).isSome=true:=(Ku.mp d).2;rw[n] at q;simp at q
def qK{h:Heap}{H:Hp}{b:Addr}{o:Obj}(e:(Dt h H).get? b=some o):h.get? b=some o/\H b=none:=by
 have d:h.get? b=some o:=PySem.W.of_hideAll (Lp h H) e;refine⟨d,?_⟩
 cases q:H b with
 |none=>rfl
 |some x=>
  have f:b∈Lp h H:=Ku.mpr ⟨Ym.mpr (Zo d),by simp[q]⟩;have z:(Dt h H).get? b=none:=PySem.W.hideAll_none (Lp h H) f;rw[z] at e;cases e
structure Mod(K:vE)(mg:Str->Option Value)(base:Heap):Prop where
 kin:K.In base
 glob:base.Ns mainGlobals mg
 blt:∃mb,base.Ns builtinsNs mb/\∀x:Str,x ≠ "__name__" -> mb x=bootBuiltins x
 nolimit:base.NoLimit
structure Cx where
 prog:Program
 w:World
 K:vE
 mg:Str->Option Value
 base:Heap
 A:Around
 N:List Str
 s₀:Shared
 H₀:Hp
 env:Env
 outer:List Env
 stack:List Env
 ex:List Addr
 fn:Str->Bool
 calm:Bool
 pn:List (Addr×Obj)
 xe:Value->Shared->Prop
def D8(l:List Env):List Addr:=l.filterMap (·.frame)
abbrev Cx.fs(X:Cx):List Addr:=D8 X.outer
def DX(sc:Scope)(x:Str):Prop:=sc.names.lookup x=some .local\/sc.names.lookup x=some .cell\/sc.names.lookup x=some .free
def Loc(sc:Scope)(x:Str):Prop:=sc.names.lookup x=some .local\/sc.names.lookup x=some .cell
def Look(env:Env)(h:Heap)(m:Str->Option Value)(x:Str)(u:Value):Prop:=
 (env.kindOf x=some .local/\m x=some u)\/((env.kindOf x=some .cell\/env.kindOf x=some .free)/\∃c,env.cells.lookup x=some c/\h.IsCell c (some u))
structure Cx.Ok(X:Cx):Prop where
 mod:Mod X.K X.mg X.base
 kind:X.env.scope.kind=.function
 glob:X.env.globals=mainGlobals
 blt:X.env.builtins=builtinsNs
 above:X.s₀.heap.objs.size<=X.env.locals
 inj:∀x y c,X.env.cells.lookup x=some c->X.env.cells.lookup y=some c->x=y
 has:∀x,(X.env.kindOf x=some .cell\/X.env.kindOf x=some .free)->∃c,X.env.cells.lookup x=some c
 cab:∀x c,X.fn x=true->X.env.cells.lookup x=some c->X.s₀.heap.objs.size<=c
 hd:X.calm=true->X.A.handled=none
 frames:X.A.frames=some X.stack
 stk:X.stack=X.outer\/(X.stack=X.env::X.outer/\X.env.frame=some X.env.locals)
 exf:∀b∈X.ex,b≠X.env.locals/\∀x c,X.env.cells.lookup x=some c->c≠b
 bs:∀b o,X.base.get? b=some o->X.s₀.heap.get? b=some o/\X.H₀ b=none
 bsz:X.base.objs.size<=X.s₀.heap.objs.size
 noex:∀b o,X.base.get? b=some o->b∉X.ex
 exfs:∀b∈X.ex,b∉X.fs
 funs:X.s₀.heap.FunFrames X.base X.outer
 frf:∀b∈X.fs,X.H₀ b=none
structure Inv(X:Cx)(pins:List (Addr×Obj))(σ:List (Option V))(H:Hp)(s:Shared):Prop where
 ok:X.Ok
 os:s.os=X.s₀.os
 bare:AllBare s.gens
 base:Un X.fs X.ex X.H₀ H X.s₀.heap s.heap
 loc:∃m,s.heap.Ns X.env.locals m/\∀(i:Nat) (x:Str) (v:V),X.N[i]? = some x->σ[i]? = some (some v)->DX X.env.scope x->∃u,RelV v u/\Look X.env s.heap m x u
 cell:∀x c,X.env.cells.lookup x=some c->∃v,s.heap.IsCell c v
 free:H X.env.locals=none
 freeC:∀x c,X.env.cells.lookup x=some c->H c=none
 pin:∀p∈X.pn++pins,s.heap.get? p.1=some p.2/\H p.1=none/\p.1≠X.env.locals/\p.1∉X.fs/\∀v,p.2.data ≠ .cell v
 hok:HOk X.prog X.w H s.heap
 len:σ.length=X.N.length
section
variable{X:Cx}{pins:List (Addr×Obj)}{σ:List (Option V)}{H H':Hp}{s:Shared}{h':Heap}
def Cx.Ok.nofr(ok:X.Ok){b:Addr}{o:Obj}(e:X.base.get? b=some o):b∉X.fs:=λd=>by
 have:=(ok.funs.mem d).1
 rw[e] at this;cases this
theorem Inv.bs(I:Inv X pins σ H s):∀b o,X.base.get? b=some o->s.heap.get? b=some o/\H b=none:=λb o e=>
 ⟨I.base.keep b o (I.ok.bs b o e).1 (I.ok.bs b o e).2 (I.ok.nofr e) (I.ok.noex b o e),I.base.free b o (I.ok.bs b o e).1 (I.ok.bs b o e).2 (I.ok.noex b o e)⟩
def Inv.bk(I:Inv X pins σ H s):∀b o,X.base.get? b=some o->s.heap.get? b=some o:=λb o e=>(I.bs b o e).1
theorem Inv.mod(I:Inv X pins σ H s):Mod X.K X.mg X.base:=I.ok.mod
def Inv.kIn(I:Inv X pins σ H s):X.K.In s.heap:=I.ok.mod.kin.keeps I.bk
theorem Inv.lt(I:Inv X pins σ H s):X.env.locals<s.heap.objs.size:=let ⟨_,d,_⟩:=I.loc;d.lt
def Inv.sz(I:Inv X pins σ H s):X.s₀.heap.objs.size<=s.heap.objs.size:=Y9 I.ok.above (Ut I.lt)
def Inv.nofs(I:Inv X pins σ H s){a:Addr}(h:s.heap.objs.size<=a):a∉X.fs:=λd=>by
 obtain⟨_,o,e,_⟩:=I.ok.funs.mem d
 exact absurd (Zg (Zo e) (Y9 I.sz h)) (Wm _)
def Inv.cne(I:Inv X pins σ H s):∀x c,X.env.cells.lookup x=some c->c≠X.env.locals:=λx c e z=>by
 obtain⟨v,o,g,h⟩:=I.cell x c e
 obtain⟨m,⟨i,j,l,d,f,_⟩,_⟩:=I.loc
 rw[z,d] at g;cases g;rw[f] at h;cases h
theorem Inv.funs(I:Inv X pins σ H s):s.heap.FunFrames X.base X.outer:=by
 have all:∀(l:List Env),(∀b∈D8 l,b∈X.fs)->X.s₀.heap.FunFrames X.base l->s.heap.FunFrames X.base l:=by
  intro l;induction l with
  |nil=>intro _ _;trivial
  |cons i r j=>
   intro h m;obtain⟨n,⟨L,o,d,p,q,t⟩,u⟩:=m
   have f:L∈X.fs:=h L (by unfold D8;rw[Kx,d];exact Wu);obtain⟨v,e⟩:=I.base.slot L o q (I.ok.frf L f) f λz=>I.ok.exfs L z f
   exact⟨n,⟨L,_,d,p,e,t⟩,j (λb g=>h b (by unfold D8;rw[Kx,d];exact Yv _ g)) u⟩
 exact all X.outer (λ_ g=>g) I.ok.funs
theorem Inv.stack(I:Inv X pins σ H s):s.heap.FunFrames X.base X.stack:=by
 rcases I.ok.stk with e|⟨e,d⟩
 ·rw[e];exact I.funs
 ·rw[e];obtain⟨m,f,_⟩:=I.loc
  refine .cons (by rw[I.ok.kind];decide) d f ?_ I.funs;exact Jw (Y9 I.ok.bsz I.ok.above)
def Inv.stkSub(I:Inv X pins σ H s):∀b∈D8 X.stack,b∈X.env.locals::X.fs:=λb d=>by
 rcases I.ok.stk with e|⟨e,f⟩
 ·rw[e] at d;exact Yv _ d
 ·rw[e] at d;unfold D8 at d;rw[Kx,f] at d;exact d
def Inv.stkFree(I:Inv X pins σ H s):∀b∈D8 X.stack,H b=none:=λb hb=>by
 rcases Zf.mp (I.stkSub b hb) with e|hb
 ·rw[e];exact I.free
 ·obtain⟨_,o,d,_⟩:=I.ok.funs.mem hb
  exact I.base.free b o d (I.ok.frf b hb) λz=>I.ok.exfs b z hb
def Inv.step{g':Array GenState}{Y:Nat}{d':Drawn}{ch:List Addr}(I:Inv X pins σ H s)
 (g:∀b∈ch,(b∈X.ex\/X.s₀.heap.objs.size<=b)/\b≠X.env.locals/\(∀x c,X.env.cells.lookup x=some c->c≠b)/\∀p∈X.pn++pins,p.1≠b)
 (h:∀b o,b≠X.env.locals->b∉X.fs->b∉ch->s.heap.get? b=some o->H b=none->h'.get? b=some o)
 (slot:∀b o,b≠X.env.locals->b∈X.fs->b∉ch->s.heap.get? b=some o->H b=none->∃Q,h'.get? b=some {o with slots:=Q})(free:∀b o,b∉ch->s.heap.get? b=some o->H b=none->H' b=none)
 (D:∀b o,b∉ch->s.heap.get? b=some o->∃G,h'.get? b=some G)
 (J:∀b C,H b=some (.tup C)->H' b=some (.tup C))(K:∀b o u,H b=some (.frz o u)->H' b=some (.frz o u))(L:∀b P,H b=some (.tbl P)->∃M,H' b=some (.tbl (P++M)))
 (Z:∀m,s.heap.Ns X.env.locals m->h'.Ns X.env.locals m)(hok:HOk X.prog X.w H' h')(hg:AllBare g'):
  Inv X pins σ H' {s with heap:=h',gens:=g',drawn:=d',toks:=Y}:=by
 have N:∀b o,X.s₀.heap.get? b=some o->b≠X.env.locals:=λb o e=>Yj (Zg (Zo e) I.ok.above)
 have A:∀b o,X.s₀.heap.get? b=some o->b∉X.ex->b∉ch:=λb o e f E=>by
  rcases(g b E).1 with z|z
  ·exact f z
  ·exact absurd (Zg (Zo e) z) (Wm _)
 have j:∀x c,X.env.cells.lookup x=some c->∀v,s.heap.IsCell c v->h'.IsCell c v:=λx c e v ⟨o,F,R⟩=>by
  have t:c∉ch:=λz=>(g c z).2.2.1 x c e rfl
  by_cases T:c∈X.fs
  ·obtain⟨Q,q⟩:=slot c o (I.cne x c e) T t F (I.freeC x c e)
   exact⟨_,q,R⟩
  ·exact⟨o,h c o (I.cne x c e) T t F (I.freeC x c e),R⟩
 refine⟨I.ok,I.os,hg,⟨λb o e n E f=>?_,λb o e n E f=>?_,λb o e n f=>?_,λb o e f=>?_,λb C e=>J b C (I.base.tups b C e),λb o C e=>K b o C (I.base.frzs b o C e),λb P e=>?_⟩,?_,λx c e=>?_,?_,λx c e=>?_,λp U=>?_,hok,I.len⟩
 ·exact h b o (N b o e) E (A b o e f) (I.base.keep b o e n E f) (I.base.free b o e n f)
 ·obtain⟨Q,B⟩:=I.base.slot b o e n E f
  obtain⟨S,O⟩:=slot b _ (N b o e) E (A b o e f) B (I.base.free b o e n f)
  exact⟨S,O⟩
 ·obtain⟨G,B⟩:=I.base.there b o e f
  exact free b G (A b o e f) B (I.base.free b o e n f)
 ·obtain⟨G,B⟩:=I.base.there b o e f
  exact D b G (A b o e f) B
 ·obtain⟨m1,B⟩:=I.base.tbls b P e
  obtain⟨m2,O⟩:=L b _ B
  exact⟨m1++m2,by rw[O,Array.append_assoc]⟩
 ·obtain⟨m,hn,hl⟩:=I.loc
  refine⟨m,Z m hn,λi x v B O e3=>?_⟩
  obtain⟨u,r,l⟩:=hl i x v B O e3
  refine⟨u,r,?_⟩
  rcases l with l|⟨k,c,e,z⟩
  ·exact .inl l
  ·exact .inr ⟨k,c,e,j x c e _ z⟩
 ·obtain⟨v,z⟩:=I.cell x c e
  exact⟨v,j x c e v z⟩
 ·obtain⟨m,⟨o,_,_,F,_⟩,_⟩:=I.loc
  exact free _ o (λz=>(g _ z).2.1 rfl) F I.free
 ·obtain⟨v,o,F,R⟩:=I.cell x c e
  exact free c o (λz=>(g c z).2.2.1 x c e rfl) F (I.freeC x c e)
 ·obtain⟨e,n,V,W,d⟩:=I.pin p U
  have t:p.1∉ch:=λz=>(g p.1 z).2.2.2 p U rfl
  exact⟨h p.1 p.2 V W t e n,free p.1 p.2 t e n,V,W,d⟩
def Inv.un{t':Nat}(I:Inv X pins σ H s)(u:Un X.fs [] H H' s.heap h')(hok:HOk X.prog X.w H' h'):Inv X pins σ H' {s with heap:=h',toks:=t'}:=by
 obtain⟨m,⟨o,q,t,i,r⟩,_⟩:=id I.loc
 obtain⟨v,j⟩:=u.any i I.free vC
 exact I.step (g':=s.gens) (d':=s.drawn) (ch:=[]) (λ_ z=>nomatch z) (λb o _ f _ e n=>u.keep b o e n f vC) (λb o _ f _ e n=>u.slot b o e n f vC) (λb o _ e n=>u.free b o e n vC) (λb o _ e=>u.there b o e vC) u.tups u.frzs u.tbls (λA l=>by
  obtain⟨B,g,h,d,p⟩:=l
  rw[i] at d;cases d;exact⟨_,g,h,j,p⟩) hok I.bare
def Inv.call{g':Array GenState}{t':Nat}{d':Drawn}{ch:List Addr}(I:Inv X pins σ H s)(u:Un (D8 X.stack) ch H H' s.heap h')(hok:HOk X.prog X.w H' h')(q:AllBare g')
 (f:∀b∈ch,(b∈X.ex\/X.s₀.heap.objs.size<=b)/\b≠X.env.locals/\(∀x c,X.env.cells.lookup x=some c->c≠b)/\∀p∈X.pn++pins,p.1≠b):
  Inv X pins σ H' {s with heap:=h',gens:=g',drawn:=d',toks:=t'}:=by
 obtain⟨m,⟨o,B,C,l,r⟩,_⟩:=id I.loc
 obtain⟨D,h⟩:=u.any l I.free λz=>(f _ z).2.1 rfl
 exact I.step (ch:=ch) f (λb o h t d e n=>u.keep b o e n (λz=>(Zf.mp (I.stkSub b z)).elim h t) d) (λb o _ _ d e n=>u.any e n d) (λb o d e n=>u.free b o e n d) (λb o d e=>u.there b o e d) u.tups u.frzs u.tbls (λE v=>by
  obtain⟨F,i,j,g,A⟩:=v
  rw[l] at g;cases g;exact⟨_,i,j,h,A⟩) hok q
def Inv.turned{t':Nat}{d:Addr}(I:Inv X pins σ H s)(k:∀b o,b≠d->s.heap.get? b=some o->h'.get? b=some o)(i:H d=none)(h:d≠X.env.locals)
 (j:d∈X.ex\/X.s₀.heap.objs.size<=d)(l:∀x c,X.env.cells.lookup x=some c->c≠d)(t:∀p∈X.pn++pins,p.1≠d):Inv X pins σ H {s with heap:=h',toks:=t'}:=by
 have g:∀b u,H b=some u->b≠d:=λb u e z=>by rw[z,i] at e;cases e
 refine I.step (g':=s.gens) (d':=s.drawn) (ch:=[d]) (λb w=>?_) (λb o _ _ f e _=>k b o (λz=>f (by simp[z])) e) (λb o _ _ f e _=>⟨o.slots,k b o (λz=>f (by simp[z])) e⟩) (λ_ _ _ _ n=>n)
  (λb o f e=>⟨o,k b o (λz=>f (by simp[z])) e⟩) (λ_ _ e=>e) (λ_ _ _ e=>e) (λb E e=>⟨#[],by rw[e];simp⟩) (λm A=>?_) (λb u e=>?_) I.bare
 ·have e:b=d:=by simpa using w
  subst e;exact⟨j,h,l,t⟩
 ·obtain⟨o,B,C,D,r⟩:=A
  exact⟨o,B,C,k _ o (Wz h) D,r⟩
 ·refine(I.hok b u e).stay (λc v f q=>k c v ?_ q) (λ_ q=>q) λ_ _ q=>q
  rcases f with z|z
  ·rw[z];exact g b u e
  ·exact g c _ z
def Inv.tok(I:Inv X pins σ H s)(t:Nat):Inv X pins σ H {s with toks:=t}:=I.un (h':=s.heap) (t':=t) Un.refl I.hok
theorem Inv.kept{t':Nat}(I:Inv X pins σ H s)(k:∀b u,s.heap.get? b=some u->h'.get? b=some u):Inv X pins σ H {s with heap:=h',toks:=t'}:=I.un (Un.kept k) (I.hok.kept k)
theorem Inv.laid{a:Addr}{o:HO}{t':Nat}(I:Inv X pins σ H s)(k:∀b u,s.heap.get? b=some u->h'.get? b=some u)(d:s.heap.objs.size<=a)(e:ObjOk X.prog X.w (upd H a o) h' a o):
  Inv X pins σ (upd H a o) {s with heap:=h',toks:=t'}:=I.un (Un.laid k d (I.hok.fresh d)) (I.hok.laid k d e)
theorem Inv.write{x e:Addr}{o:HO}{i:Nat}(I:Inv X pins σ H s)(g:Lv (H x))(h:e=x\/H e=some (.own x))(k:∀b u,b≠e->s.heap.get? b=some u->h'.get? b=some u)(d:∃u,h'.get? e=some u)
 (f:ObjOk X.prog X.w (upd H x o) h' x o):Inv X pins σ (upd H x o) {s with heap:=h',toks:=i}:=I.un (Un.write g h k d) (I.hok.write g h k d f)
def Inv.pins_of{d:List (Addr×Obj)}(I:Inv X pins σ H s)(h:∀p∈d,s.heap.get? p.1=some p.2/\H p.1=none/\p.1≠X.env.locals/\p.1∉X.fs/\∀v,p.2.data ≠ .cell v):Inv X d σ H s:=
 ⟨I.ok,I.os,I.bare,I.base,I.loc,I.cell,I.free,I.freeC,λp e=>(Yw.mp e).elim (λz=>I.pin p (Qw _ z)) (h p),I.hok,I.len⟩
def mD{N:List Str}(d:N.Nodup){i j:Nat}{x:Str}(a:N[i]? = some x)(b:N[j]? = some x):i=j:=by
 obtain⟨g,e⟩:=Zi.mp a
 obtain⟨h,f⟩:=Zi.mp b
 exact(Kr d).mp (e.trans f.symm)
def mE{M:Model}{A:Around}{E:Value->Shared->Prop}{i:Nat}{x:Str}{v:V}{u:Value}{Q:Unit->Shared->Prop}(I:Inv X pins σ H s)(hN:X.N.Nodup)(P:X.N[i]? = some x)(B:Loc X.env.scope x)(r:RelV v u)
 (h:∀s',Inv X pins (σ.set i (some v)) H s'->(∃a,Heap.SameBut a s.heap s'.heap/\(a=X.env.locals\/X.env.cells.lookup x=some a))->Q () s')(hf:X.fn x=true\/X.env.scope.names.lookup x=some .local:=by first|exact .inl rfl|exact .inr rfl|assumption):wpAny M A (storeName X.env x u) Q E s:=by
 obtain⟨m,hn,hl⟩:=id I.loc
 have R:(X.env.scope.kind == .class || (X.env.scope.kind == .module && X.env.locals != X.env.globals))=false:=by rw[I.ok.kind];rfl
 have F:i<σ.length:=by rw[I.len];exact(Zi.mp P).1
 have J:=I.cne;have g:∀{a:Addr}{h':Heap},(∃o,s.heap.get? a=some o/\H a=none)->Heap.SameBut a s.heap h'->HOk X.prog X.w H h':=λ{a h'} ha f b ob e=>by
  obtain⟨_,_,C⟩:=ha
  refine(I.hok b ob e).stay (λc Y t q=>(f.2 c ?_).trans q) (λ_ q=>q) λ_ _ q=>q
  rintro rfl
  rcases t with rfl|t
  ·rw[C] at e;cases e
  ·rw[C] at t;cases t
 rcases B with G|G
 ·refine wpAny_storeName_local G hn (λh' a0 f=>?_) R;obtain⟨oL,_,_,a1,_⟩:=id hn
  refine h _ ⟨I.ok,I.os,I.bare,⟨λb o e n K B=>?_,λb o e n K B=>?_,I.base.free,λb o e B=>?_,I.base.tups,I.base.frzs,I.base.tbls⟩,⟨_,a0,λj y v' l D e3=>?_⟩,λy c e=>?_,I.free,I.freeC,λp hp=>?_,g ⟨oL,a1,I.free⟩ f,by simpa using I.len⟩ ⟨_,f,.inl rfl⟩
  ·exact(f.2 b (Yj (Zg (Zo e) I.ok.above))).trans (I.base.keep b o e n K B)
  ·obtain⟨sl,l⟩:=I.base.slot b o e n K B
   exact⟨sl,(f.2 b (Yj (Zg (Zo e) I.ok.above))).trans l⟩
  ·obtain⟨o',l⟩:=I.base.there b o e B
   exact⟨o',(f.2 b (Yj (Zg (Zo e) I.ok.above))).trans l⟩
  ·by_cases L:j=i
   ·subst L;rw[P] at l;cases l;rw[Ya F] at D;cases D;exact⟨u,r,.inl ⟨G,by simp⟩⟩
   ·rw[Z7 (Wz L)] at D;obtain⟨u',r',q⟩:=hl j y v' l D e3
    refine⟨u',r',?_⟩
    rcases q with⟨k,e⟩|⟨k,c,e,z⟩
    ·refine .inl ⟨k,?_⟩;have:y≠x:=λe=>L (mD hN l (e ▸ P))
     simp[this,e]
    ·exact .inr ⟨k,c,e,z.sameBut f (J y c e)⟩
  ·obtain⟨Y,z⟩:=I.cell y c e
   exact⟨Y,z.sameBut f (J y c e)⟩
  ·obtain⟨e,n,Z,nf,d⟩:=I.pin p hp
   exact⟨(f.2 p.1 Z).trans e,n,Z,nf,d⟩
 ·have O:X.fn x=true:=by
   rcases hf with z|z
   ·exact z
   ·rw[z] at G;cases G
  obtain⟨c,t⟩:=I.ok.has x (.inl G)
  obtain⟨Y,z⟩:=I.cell x c t
  refine wpAny_storeName_cell I.ok.kind G t z (λh' S f=>?_);obtain⟨oc,T,U⟩:=id z
  refine h {s with heap:=h'} ⟨I.ok,I.os,I.bare,⟨λb o e n K B=>?_,λb o e n K B=>?_,I.base.free,λb o e B=>?_,I.base.tups,I.base.frzs,I.base.tbls⟩,⟨m,hn.sameBut f (Wz (J x c t)),λj y v' l D e3=>?_⟩,λy c' e=>?_,I.free,I.freeC,λp hp=>?_,g ⟨oc,T,I.freeC x c t⟩ f,by simpa using I.len⟩ ⟨c,f,.inr t⟩
  ·exact(f.2 b (Yj (Zg (Zo e) (I.ok.cab x c O t)))).trans (I.base.keep b o e n K B)
  ·obtain⟨sl,l⟩:=I.base.slot b o e n K B
   exact⟨sl,(f.2 b (Yj (Zg (Zo e) (I.ok.cab x c O t)))).trans l⟩
  ·obtain⟨o',l⟩:=I.base.there b o e B
   exact⟨o',(f.2 b (Yj (Zg (Zo e) (I.ok.cab x c O t)))).trans l⟩
  ·by_cases L:j=i
   ·subst L;rw[P] at l;cases l;rw[Ya F] at D;cases D;exact⟨u,r,.inr ⟨.inl G,c,t,S⟩⟩
   ·rw[Z7 (Wz L)] at D;obtain⟨u',r',q⟩:=hl j y v' l D e3
    refine⟨u',r',?_⟩
    rcases q with q|⟨k,c',e,z'⟩
    ·exact .inl q
    ·refine .inr ⟨k,c',e,z'.sameBut f ?_⟩;rintro rfl
     exact L (mD hN l (I.ok.inj _ _ _ e t ▸ P))
  ·by_cases W:c'=c
   ·subst W;exact⟨_,S⟩
   ·obtain⟨w2,z2⟩:=I.cell y c' e
    exact⟨w2,z2.sameBut f W⟩
  ·obtain⟨e,n,Z,nf,d⟩:=I.pin p hp
   refine⟨(f.2 p.1 ?_).trans e,n,Z,nf,d⟩
   intro q;rw[q,T] at e;have q':oc=p.2:=Zs e;exact d Y (by rw[<-q'];exact U)
def ic{M:Model}{A:Around}{E:Value->Shared->Prop}{i:Nat}{x:Str}{v:V}{u:Value}{Q:Unit->Shared->Prop}(I:Inv X pins σ H s)(e:X.N.Nodup)(f:X.N[i]? = some x)(g:Loc X.env.scope x)(r:RelV v u)
 (h:∀d,Inv X pins (σ.set i (some v)) H d->Q () d)(j:X.fn x=true\/X.env.scope.names.lookup x=some .local:=by first|exact .inl rfl|exact .inr rfl|assumption):wpAny M A (storeName X.env x u) Q E s:=
 mE I e f g r (λd l _=>h d l) j
def Inv.call'{d:Shared}{ch:List Addr}(I:Inv X pins σ H s)(g:d.os=s.os)(u:Un (D8 X.stack) ch H H' s.heap d.heap)(hok:HOk X.prog X.w H' d.heap)(h:AllBare d.gens)
 (f:∀b∈ch,(b∈X.ex\/X.s₀.heap.objs.size<=b)/\b≠X.env.locals/\(∀x c,X.env.cells.lookup x=some c->c≠b)/\∀p∈X.pn++pins,p.1≠b):Inv X pins σ H' d:=by
 obtain⟨h',g',d',t',i⟩:=d
 have e:i=s.os:=g;subst e;exact I.call (g':=g') (t':=t') (d':=d') u hok h f
end
abbrev XK:=Value->Option Addr->Hp->Prop
abbrev St:=List (Option V)
abbrev VK:=V->Hp->Prop
abbrev TE:=St->Hp->VK->Prop
abbrev TT:=St->Hp->(Bool->Hp->Prop)->Prop
abbrev TA:=St->Hp->(List V->Hp->Prop)->Prop
structure Ends where
 nx:St->Hp->Prop
 rt:VK
 bk:St->Hp->Prop:=λ_ _=>False
 ct:St->Hp->Prop:=λ_ _=>False
abbrev TS:=Ends->St->Hp->Prop
def EP(X:Cx)(d:List (Addr×Obj))(f:St)(Q:VK)(u:Value)(g:Shared):Prop:=∃v e,Inv X d f e g/\RelV v u/\Q v e
def TP(X:Cx)(d:List (Addr×Obj))(f:St)(Q:Bool->Hp->Prop)(b:Bool)(g:Shared):Prop:=∃e,Inv X d f e g/\Q b e
def AP(X:Cx)(d:List (Addr×Obj))(g:St)(Q:List V->Hp->Prop)(us:List Value)(h:Shared):Prop:=∃e f,Inv X d g f h/\Vals e us/\Q e f
def SP(X:Cx)(e:List (Addr×Obj))(D:Ends)(f:Flow)(h:Shared):Prop:=
 match f with
 |.next=>∃d g,Inv X e d g h/\D.nx d g
 |.brk=>∃d g,Inv X e d g h/\D.bk d g
 |.cont=>∃d g,Inv X e d g h/\D.ct d g
 |.ret u=>∃v d g,Inv X e d g h/\RelV v u/\D.rt v g
def PE(X:Cx)(e:Expr)(t:TE):Prop:=
 ∀(d:List (Addr×Obj)) (s:Shared) (f:St) (H:Hp) (Q:VK),Inv X d f H s->t f H Q->wpAny (model X.prog X.w) X.A (eval e X.env) (EP X d f Q) X.xe s
def PT(X:Cx)(e:Expr)(t:TT):Prop:=
 ∀(d:List (Addr×Obj)) (s:Shared) (f:St) (H:Hp) (Q:Bool->Hp->Prop),Inv X d f H s->t f H Q->wpAny (model X.prog X.w) X.A (isTrue e X.env (eval e X.env)) (TP X d f Q) X.xe s
def PW(X:Cx)(e:Expr)(t:TT):Prop:=
 ∀(d:Sem Value) (pins:List (Addr×Obj)) (s:Shared) (f:St) (H:Hp) (Q:Bool->Hp->Prop),Inv X pins f H s->t f H Q->wpAny (model X.prog X.w) X.A (isTrue e X.env d) (TP X pins f Q) X.xe s
def PW.pt{X:Cx}{e:Expr}{t:TT}(h:PW X e t):PT X e t:=h _
def PA(X:Cx)(e:List Expr)(t:TA):Prop:=
 ∀(pos:Pos) (pins:List (Addr×Obj)) (s:Shared) (d:St) (H:Hp) (Q:List V->Hp->Prop),Inv X pins d H s->t d H Q->wpAny (model X.prog X.w) X.A (spliced (backTo pos (starEach e X.env))) (AP X pins d Q) X.xe s
def PS(X:Cx)(f:Stmt)(t:TS):Prop:=
 ∀(d:List (Addr×Obj)) (s:Shared) (e:St) (H:Hp) (D:Ends),Inv X d e H s->t D e H->wpAny (model X.prog X.w) X.A (exec f X.env) (SP X d D) X.xe s
def PSs(X:Cx)(f:List Stmt)(t:TS):Prop:=
 ∀(d:List (Addr×Obj)) (s:Shared) (e:St) (H:Hp) (D:Ends),Inv X d e H s->t D e H->wpAny (model X.prog X.w) X.A (execs f X.env) (SP X d D) X.xe s
def CH{d:Type}{t:Sem d}{Q e:d->Shared->Prop}{M:Model}{A:Around}{E:Value->Shared->Prop}{s:Shared}(h:wpAny M A t Q E s)(f:∀a s,Q a s->e a s):wpAny M A t e E s:=U8 h f λ_ _ x=>x
section
variable{X:Cx}
def Dh(i:Nat):TE:=λd H Q=>∃v,d[i]? = some (some v)/\Q v H
def tC(v:V):TE:=λ_ H Q=>Q v H
def bA{i:Nat}{x:Str}{pos:Pos}(q:X.N[i]? = some x)(t:DX X.env.scope x)(n:(x == ("__debug__" : Str))=false:=by decide)(o:(x == ("__classdict__" : Str))=false:=by decide):PE X (.Name x pos) (Dh i):=by
 intro j s w H Q I h;obtain⟨v,e,h⟩:=h
 obtain⟨m,z,A⟩:=I.loc
 obtain⟨u,r,l⟩:=A i x v q e t
 have f:EP X j w Q u s:=⟨v,H,I,r,h⟩;rcases l with⟨g,B⟩|⟨g,c,p,d⟩
 ·exact wpAny_Name (wpAny_loadName_local I.ok.kind g z B f) n
 ·rcases g with g|g
  ·exact wpAny_Name (wpAny_loadName_cell I.ok.kind g p d f) n
  ·exact wpAny_Name (wpAny_loadName_free I.ok.kind g p d f o) n
def GI{i j pos}:PE X (.Constant (.int i) j pos) (tC (.int i)):=λ_ _ _ H _ I h=>wpAny_Constant_int ⟨.int i,H,I.tok _,⟨_,rfl⟩,h⟩
def IZ{b j pos}:PE X (.Constant (.bool b) j pos) (tC (.bl b)):=λ_ _ _ H _ I h=>Constant_bool ⟨.bl b,H,I,rfl,h⟩
def mF{j pos}:PE X (.Constant .none j pos) (tC .non):=λ_ _ _ H _ I h=>Constant_none ⟨.non,H,I,rfl,h⟩
def Gl(X:Cx)(x:Str):Prop:=X.env.kindOf x=some .globalImplicit
def mG{E:Value->Shared->Prop}{d:List (Addr×Obj)}{s:Shared}{e:St}{H:Hp}{x:Str}{u:Value}{pos:Pos}{Q:Value->Shared->Prop}(I:Inv X d e H s)(f:Gl X x)(g:X.mg x=some u)(h:Q u s)
 (i:(x == ("__debug__" : Str))=false:=by decide):wpAny (model X.prog X.w) X.A (eval (.Name x pos) X.env) Q E s:=
 U5 I.ok.kind f (Calls.loadGlobal_global (by rw[I.ok.glob];exact I.mod.glob.keeps I.bk) g h) i
def cU{E:Value->Shared->Prop}{d:List (Addr×Obj)}{s:Shared}{e:St}{H:Hp}{x:Str}{u:Value}{pos:Pos}{Q:Value->Shared->Prop}(I:Inv X d e H s)(f:Gl X x)(g:X.mg x=none)(i:bootBuiltins x=some u)(h:Q u s)
 (j:x ≠ "__name__" := by decide)(l:(x == ("__debug__" : Str))=false:=by decide):wpAny (model X.prog X.w) X.A (eval (.Name x pos) X.env) Q E s:=by
 obtain⟨o,m,n⟩:=I.mod.blt
 exact U5 I.ok.kind f (Calls.loadGlobal_builtin (by rw[I.ok.glob];exact I.mod.glob.keeps I.bk) g (by rw[I.ok.blt];exact m.keeps I.bk) ((n x j).trans i) h) l
def qL{x:Str}{v:V}{u:Value}{pos:Pos}(d:Gl X x)(e:X.mg x=none)(f:bootBuiltins x=some u)(r:RelV v u)(g:x ≠ "__name__" := by decide)(i:(x == ("__debug__" : Str))=false:=by decide):PE X (.Name x pos) (tC v):=
 λ_ _ _ H _ I h=>cU I d e f ⟨v,H,I,r,h⟩ g i
variable{a b:Expr}{ta tb:TE}{pos:Pos}
def tB(t:TE):TT:=λd H Q=>t d H λx e=>∃c,x=.bl c/\Q c e
def F8{e:Expr}{t:TE}(h:PE X e t)(i:∀f,isTrue e X.env f=(do let v <-f;standAt e.pos;holding [v] (truthy v)):=by intro _;rfl):PT X e (tB t):=by
 intro g s j H Q I l;refine isTrue_plain (CH (h g s j H _ I l) λv r ⟨x,m,n,o,p⟩=>?_) (i _);obtain⟨d,rfl,q⟩:=p
 cases o;exact Q5 ⟨m,n,q⟩
variable{tA tB':TT}{rest:List Expr}
def LO(t u:TT):TT:=λd H Q=>t d H λc e=>if c=true then u d e Q else Q false e
def tOr(t u:TT):TT:=λd H Q=>t d H λc e=>if c=true then Q true e else u d e Q
def LI(t:TT):TT:=λd H Q=>t d H λc e=>Q (!c) e
def qM(f:PT X a tA):PW X (.BoolOp .And [a] pos) tA:=by
 intro i d s g H Q I h;refine isTrue_and (CH (f d s g H Q I h) λc j e=>?_);cases c with
 |true=>exact isTrue_and_nil e
 |false=>exact e
def FZ(f:PT X a tA):PW X (.BoolOp .Or [a] pos) tA:=by
 intro i d s g H Q I h;refine isTrue_or (CH (f d s g H Q I h) λc j e=>?_);cases c with
 |false=>exact isTrue_or_nil e
 |true=>exact e
def mH(j:PT X a tA)(l:PW X (.BoolOp .And (b::rest) pos) tB'):PW X (.BoolOp .And (a::b::rest) pos) (LO tA tB'):=by
 intro m d s e H Q I h;refine isTrue_and (CH (j d s e H _ I h) λc n ⟨f,g,i⟩=>?_);cases c with
 |true=>exact l m d n e f Q g i
 |false=>exact⟨f,g,i⟩
def E5(j:PT X a tA)(l:PW X (.BoolOp .Or (b::rest) pos) tB'):PW X (.BoolOp .Or (a::b::rest) pos) (tOr tA tB'):=by
 intro m d s e H Q I h;refine isTrue_or (CH (j d s e H _ I h) λc n ⟨f,g,i⟩=>?_);cases c with
 |true=>exact⟨f,g,i⟩
 |false=>exact l m d n e f Q g i
def Gs(e:PT X a tA):PT X (.UnaryOp .Not a pos) (LI tA):=by
 intro d s f H Q I h;exact isTrue_not (e d s f H (λc g=>Q (!c) g) I h)
def IH(ta tb:TE):TE:=λd H Q=>ta d H λx e=>∃c,x=.bl c/\if c=true then tb d e Q else Q (.bl false) e
def LH(ta tb:TE):TE:=λd H Q=>ta d H λx e=>∃c,x=.bl c/\if c=true then Q (.bl true) e else tb d e Q
def ID(ta:TE):TE:=λd H Q=>ta d H λx e=>∃c,x=.bl c/\Q (.bl (!c)) e
def GG{e}{t:TE}(h:PE X a t):PE X (.BoolOp e [a] pos) t:=λd s f H Q I g=>BoolOp_one (h d s f H Q I g)
def mI(j:PE X a ta)(l:PE X (.BoolOp .And (b::rest) pos) tb):PE X (.BoolOp .And (a::b::rest) pos) (IH ta tb):=by
 intro d s f H Q I h;refine BoolOp_and (CH (j d s f H _ I h) λv m ⟨x,g,i,n,e⟩=>?_);obtain⟨c,rfl,e⟩:=e
 cases n;refine Q5 ?_;cases c with
 |true=>exact l d m f g Q i e
 |false=>exact⟨.bl false,g,i,rfl,e⟩
def E7(j:PE X a ta)(l:PE X (.BoolOp .Or (b::rest) pos) tb):PE X (.BoolOp .Or (a::b::rest) pos) (LH ta tb):=by
 intro d s f H Q I h;refine BoolOp_or (CH (j d s f H _ I h) λv m ⟨x,g,i,n,e⟩=>?_);obtain⟨c,rfl,e⟩:=e
 cases n;refine Q5 ?_;cases c with
 |false=>exact l d m f g Q i e
 |true=>exact⟨.bl true,g,i,rfl,e⟩
def GH(f:PE X a ta):PE X (.UnaryOp .Not a pos) (ID ta):=by
 intro d s g H Q I h;refine UnaryOp_ (CH (f d s g H _ I h) λv m ⟨x,i,j,l,e⟩=>?_);obtain⟨c,rfl,e⟩:=e
 cases l;exact not_of (Q5 ⟨.bl (!c),i,j,rfl,e⟩)
def tIf(t:TT)(ta tb:TE):TE:=λd H Q=>t d H λc e=>if c=true then ta d e Q else tb d e Q
def mJ{c:Expr}(m:PT X c tA)(n:PE X a ta)(o:PE X b tb):PE X (.IfExp c a b pos) (tIf tA ta tb):=by
 intro e s f H Q I h;refine wpAny_IfExp (CH (m e s f H _ I h) λd g ⟨i,j,l⟩=>?_);cases d with
 |true=>exact n e g f i Q j l
 |false=>exact o e g f i Q j l
end
def SqL(K:vE)(H:Hp)(a:Addr)(e:List V):Prop:=
 Rd H a (.lst e) \/
  ∃(o:Obj) (d:Array Value) (n:Nat),K.lookup a=some o/\o.cls=.type "list" /\ o.dict=none/\o.data=.seq d n/\d.size<=sizeLine/\Vals e d.toList
def SqT(K:vE)(H:Hp)(a:Addr)(e:List V):Prop:=
 Rd H a (.tup e) \/
  ∃(o:Obj) (d:Array Value) (n:Nat),K.lookup a=some o/\o.cls=.type "tuple" /\ o.data=.seq d n/\d.size<=sizeLine/\Vals e d.toList
noncomputable def Me:Value->Option V
 |.none=>some .non
 |.bool b=>some (.bl b)
 |.int i _=>some (.int i)
 |.str x _=>some (.str x)
 |.bytes b _=>some (.byt b)
 |.float b _=>some (.flt b)
 |.ref a=>some (.ref a)
 |.type n=>some (.ty n)
 |_=>none
def RelV.abs{x:V}{u:Value}(r:RelV x u):Me u=some x:=by
 cases x with
 |non=>cases r;rfl
 |bl _=>cases r;rfl
 |int _=>obtain⟨t,rfl⟩:=r;rfl
 |str _=>obtain⟨t,rfl⟩:=r;rfl
 |byt _=>obtain⟨t,rfl⟩:=r;rfl
 |flt _=>obtain⟨t,rfl⟩:=r;rfl
 |ref _=>cases r;rfl
 |ty _=>cases r;rfl
def RelV.inj{x y:V}{u:Value}(r:RelV x u)(q:RelV y u):x=y:=Zs (r.abs.symm.trans q.abs)
theorem Vals.inj:∀{e d:List V}{us:List Value},Vals e us->Vals d us->e=d:=λ{e d us} h=>by
 induction h generalizing d with
 |nil=>intro k;cases k;rfl
 |cons r t f=>
  intro k;cases k with
  |cons g i=>rw[r.inj g,f i]
section
variable{X:Cx}{pins:List (Addr×Obj)}{σ:St}{H:Hp}{s:Shared}{a:Addr}{xs ys:List V}
def SqL.of{K:vE}(h:H a=some (.lst xs)):SqL K H a xs:=.inl (.inl h)
def SqT.of{K:vE}(h:H a=some (.tup xs)):SqT K H a xs:=.inl (.inl h)
def Inv.list(I:Inv X pins σ H s)(h:SqL X.K H a xs):∃d:List Value,Vals xs d/\PlainL s.heap a d.toArray/\xs.length<=sizeLine:=by
 rcases h with h|⟨o,d,n,f,g,i,j,l,r⟩
 ·obtain⟨z,d,n,r,e⟩:=h.ok I.hok
  exact⟨d,r,⟨_,n,e,rfl,rfl,rfl⟩,z⟩
 ·refine⟨d.toList,r,⟨o,n,I.kIn a o f,g,i,by simpa using j⟩,?_⟩
  have e:=r.length;simp only[J2] at e;omega
def Inv.tuple(I:Inv X pins σ H s)(h:SqT X.K H a xs):∃d:List Value,Vals xs d/\IsTup s.heap a d.toArray/\xs.length<=sizeLine:=by
 rcases h with h|⟨o,d,n,f,g,i,j,r⟩
 ·obtain⟨z,d,r,p⟩:=h.ok I.hok
  exact⟨d,r,p,z⟩
 ·refine⟨d.toList,r,⟨o,I.kIn a o f,g,n,by simpa using i⟩,?_⟩
  have e:=r.length;simp only[J2] at e;omega
def Inv.list_inj(I:Inv X pins σ H s)(h:SqL X.K H a xs)(l:SqL X.K H a ys):xs=ys:=by
 obtain⟨g,r,⟨o,n,e,_,_,d⟩,_⟩:=I.list h
 obtain⟨f,m,⟨q,t,i,_,_,j⟩,_⟩:=I.list l
 rw[e] at i;cases i;rw[d] at j;injection j with p _
 have:g=f:=by simpa using congrArg Array.toList p
 subst this;exact r.inj m
def Inv.tuple_inj(I:Inv X pins σ H s)(h:SqT X.K H a xs)(l:SqT X.K H a ys):xs=ys:=by
 obtain⟨g,r,⟨o,e,_,n,d⟩,_⟩:=I.tuple h
 obtain⟨f,m,⟨q,i,_,t,j⟩,_⟩:=I.tuple l
 rw[e] at i;cases i;rw[d] at j;injection j with p _
 have:g=f:=by simpa using congrArg Array.toList p
 subst this;exact r.inj m
end
abbrev Cx.wish(X:Cx)(E:Value->Shared->Prop):Cx:={X with xe:=E}
abbrev Cx.nox(X:Cx):Cx:=X.wish λ_ _=>False
theorem Cx.Ok.wish{X:Cx}(ok:X.Ok)(E:Value->Shared->Prop):(X.wish E).Ok:=
 ⟨ok.mod,ok.kind,ok.glob,ok.blt,ok.above,ok.inj,ok.has,ok.cab,ok.hd,ok.frames,ok.stk,ok.exf,ok.bs,ok.bsz,ok.noex,ok.exfs,ok.funs,ok.frf⟩
def Cx.Ok.unwish{X:Cx}{E:Value->Shared->Prop}(ok:(X.wish E).Ok):X.Ok:=
 ⟨ok.mod,ok.kind,ok.glob,ok.blt,ok.above,ok.inj,ok.has,ok.cab,ok.hd,ok.frames,ok.stk,ok.exf,ok.bs,ok.bsz,ok.noex,ok.exfs,ok.funs,ok.frf⟩
section
variable{X:Cx}{pins:List (Addr×Obj)}{σ:St}{H:Hp}{s:Shared}{E:Value->Shared->Prop}
theorem Inv.wish(I:Inv X pins σ H s)(E:Value->Shared->Prop):Inv (X.wish E) pins σ H s:=⟨I.ok.wish E,I.os,I.bare,I.base,I.loc,I.cell,I.free,I.freeC,I.pin,I.hok,I.len⟩
theorem Inv.unwish(I:Inv (X.wish E) pins σ H s):Inv X pins σ H s:=⟨I.ok.unwish,I.os,I.bare,I.base,I.loc,I.cell,I.free,I.freeC,I.pin,I.hok,I.len⟩
theorem SP.unwish{D:Ends}{f:Flow}{g:Shared}(h:SP (X.wish E) pins D f g):SP X pins D f g:=by
 cases f with
 |next=>obtain⟨d,e,I,q⟩:=h;exact⟨d,e,I.unwish,q⟩
 |brk=>obtain⟨d,e,I,q⟩:=h;exact⟨d,e,I.unwish,q⟩
 |cont=>obtain⟨d,e,I,q⟩:=h;exact⟨d,e,I.unwish,q⟩
 |ret u=>obtain⟨v,d,e,I,r,q⟩:=h;exact⟨v,d,e,I.unwish,r,q⟩
theorem PSs.nox{d:List Stmt}{t:TS}(h:PSs X.nox d t):PSs X d t:=λpins s σ H D I e=>
 U8 (h pins s σ H D (I.wish _) e) (λ_ _ q=>q.unwish) λ_ _ z=>False.elim z
end
section
variable{X:Cx}{st:Stmt}{rest:List Stmt}{t u:TS}{e:Expr}{te:TE}{pos:Pos}
def IE:TS:=λD d H=>D.nx d H
def IA(t u:TS):TS:=λD d H=>t {D with nx:=u D} d H
def mK:PSs X [] IE:=λ_ _ d H _ I h=>Ub ⟨d,H,I,h⟩
def Bz(g:PS X st t)(i:PSs X rest u):PSs X (st::rest) (IA t u):=by
 intro d s j H D I h;refine wpAny_execs_cons (CH (g d s j H {D with nx:=u D} I h) λf l q=>?_);cases f with
 |next=>
  obtain⟨e,m,n,q⟩:=q
  exact i d l e m D n q
 |ret v=>exact q
 |brk=>exact q
 |cont=>exact q
def dr(e:PS X st t):PSs X [st] t:=by
 intro d s g H D I h;refine wpAny_execs_cons (CH (e d s g H D I h) λf i q=>?_);cases f with
 |next=>exact Ub q
 |ret v=>exact q
 |brk=>exact q
 |cont=>exact q
def Inv.quiet{pins:List (Addr×Obj)}{σ:St}{H:Hp}{s:Shared}(I:Inv X pins σ H s):interactive X.env=false:=by simp[interactive,I.ok.kind]
def ie(te:TE):TS:=λD d H=>te d H λ_ e=>D.nx d e
def fP(g:PE X e te)(i:swapsWith e none pos.line X.env=pure false:=by rfl):PS X (.Expr e pos) (ie te):=by
 intro d s f H D I h;exact wpAny_Expr_any (CH (g d s f H _ I h) λv n ⟨x,j,l,o,m⟩=>⟨f,j,l,m⟩) I.quiet i
def LD(te:TE):TS:=λD d H=>te d H D.rt
def ig(g:PE X e te):PS X (.Return (some e) pos) (LD te):=by
 intro d s f H D I h;exact wpAny_Return_some (CH (g d s f H _ I h) λv n ⟨x,i,j,l,m⟩=>⟨x,f,i,j,l,m⟩)
def LK(c:TT)(t u:TS):TS:=λD d H=>c d H λb e=>if b=true then t D d e else u D d e
def j8{c:Expr}{a b:List Stmt}{g:TT}(n:PT X c g)(o:PSs X a t)(p:PSs X b u):PS X (.If c a b pos) (LK g t u):=by
 intro e s f H D I h;refine wpAny_If (CH (n e s f H _ I h) λd i ⟨j,l,m⟩=>?_);cases d with
 |true=>exact o e i f j D l m
 |false=>exact p e i f j D l m
def FO:TS:=λ_ _ _=>False
def j9{d:List Stmt}:PSs X d FO:=λ_ _ _ _ _ _ h=>h.elim
end
abbrev TG:=V->St->Hp->(St->Hp->Prop)->Prop
abbrev Fs:=List V->St->Hp->(St->Hp->Prop)->Prop
def PG(X:Cx)(d:Expr)(t:TG):Prop:=
 ∀(e:List (Addr×Obj)) (s:Shared) (g:St) (H:Hp) (v:V) (u:Value) (Q:St->Hp->Prop),Inv X e g H s->RelV v u->t v g H Q ->
  wpAny (model X.prog X.w) X.A (assign d X.env u) (λ_ i=>∃f h,Inv X e f h i/\Q f h) X.xe s
def PGs(X:Cx)(j:List Expr)(t:Fs):Prop:=
 ∀(d:List (Addr×Obj)) (s:Shared) (f:St) (H:Hp) (g:List V) (h:List Value) (Q:St->Hp->Prop),Inv X d f H s->Vals g h->t g f H Q ->
  wpAny (model X.prog X.w) X.A (assignInOrder ((assignEach j X.env).map (·.2)) h) (λ_ l=>∃e i,Inv X d e i l/\Q e i) X.xe s
abbrev HX:=V->V->V->Hp->(Hp->Prop)->Prop
def Lg(X:Cx)(t:HX):Prop:=
 ∀(d:List (Addr×Obj)) (s:Shared) (e:St) (H:Hp) (o i v:V) (f g u:Value) (Q:Hp->Prop),Inv X d e H s->RelV o f->RelV i g->RelV v u->t o i v H Q ->
  wpAny (model X.prog X.w) X.A (setItem f g u) (λ_ j=>∃h,Inv X d e h j/\Q h) X.xe s
section
variable{X:Cx}{pos:Pos}
def fQ(i:Nat):TG:=λv d H Q=>Q (d.set i (some v)) H
def fR{i:Nat}{x:Str}(e:X.N.Nodup)(f:X.N[i]? = some x)(g:Loc X.env.scope x)(j:X.fn x=true\/X.env.scope.names.lookup x=some .local:=by first|exact .inl rfl|exact .inr rfl|assumption):PG X (.Name x pos) (fQ i):=by
 intro d s m H v u Q I r h;exact wpAny_assign_Name (ic I e f g r (λn l=>⟨_,H,l,h⟩) j)
def Ma:Fs:=λd e H Q=>d=[]/\Q e H
def JY(t:TG)(u:Fs):Fs:=λe f H Q=>∃v r,e=v::r/\t v f H λd g=>u r d g Q
def ka:PGs X [] Ma:=by
 intro d s f H g i Q I r h;obtain⟨e,h⟩:=h
 subst e;cases r;exact assignInOrder_nil ⟨f,H,I,h⟩
def ij{e:Expr}{f:List Expr}{t:TG}{u:Fs}(i:PG X e t)(j:PGs X f u)
 (l:(assignEach (e::f) X.env).map (·.2)=assign e X.env::(assignEach f X.env).map (·.2):=by rfl):PGs X (e::f) (JY t u):=by
 intro d s m H A B Q I r h;obtain⟨v,C,n,h⟩:=h
 subst n;cases r with
 |cons r o=>
  rw[l];refine U0 (CH (i d s m H _ _ _ I r h) λ_ p ⟨g,q,w,z⟩=>?_);exact j d p g q _ _ Q w o z
def L8(K:vE)(n:Nat)(t:Fs):TG:=λv e H Q=>∃a d,v=.ref a/\SqT K H a d/\d.length=n/\t d e H Q
def kb{f:List Expr}{k:Nat}{t:Fs}{n:Nat}(m:X.calm=true)(h:PGs X f t)
 (p:(assignEach f X.env).length=n:=by rfl)(g:(assignEach f X.env).findIdx? (·.1)=none:=by rfl):PG X (.Tuple f k pos) (L8 X.K n t):=by
 intro d s j H v u Q I r i;obtain⟨a,q,w,z,A,i⟩:=i
 subst w;cases r;obtain⟨B,l,C,G⟩:=I.tuple z
 refine assign_Tuple_tuple (I.ok.hd m) C (by simp[p,<-A,l.length]) g λD E=>?_;have F:Inv X d j H {s with heap:=D}:=I.kept (t':=s.toks) λb o e=>E b o (Yj (Zo e)) e
 exact h d _ j H q _ Q F (by simpa using l) i
def L9(e f:TE)(t:HX):TG:=λv d H Q=>e d H λo g=>f d g λi h=>t o i v h λH3=>Q d H3
def GD{o i:Expr}{j l:TE}{t:HX}(m:PE X o j)(n:PE X i l)(p:Lg X t)
 (q:∀v,assign (.Subscript o i pos) X.env v=(do
   let e <-holding [v] (eval o X.env)
   let f <-holding [v,e] (eval i X.env)
   standAt pos
   holding [v,e,f] (setItem e f v)
   release [v,e,f] []):=by intro _;rfl):PG X (.Subscript o i pos) (L9 j l t):=by
 intro d s g H v u Q I r h;rw[q];refine Zd (Qn (CH (m d s g H _ I h) λe w ⟨x,z,A,B,C⟩=>?_));refine Zd (Qn (CH (n d w g z _ A C) λf D ⟨y,E,F,G,J⟩=>?_));refine Zd (Uy (Zd (Qn (CH (p d D g E x y v e f u _ F B G r J) λ_ M ⟨H3,K,L⟩=>?_))));exact wpAny_release ⟨g,H3,K,L⟩
def Ee(e:TE)(g:TG):TS:=λD d H=>e d H λx f=>g x d f D.nx
def mM{f e:Expr}{i:TE}{g:TG}(l:PE X e i)(m:PG X f g)(n:swapsWithSole [f] e pos.line X.env=pure false:=by rfl)(o:swappedStores [f] e X.env=pure none:=by rfl)
 (p:(assignEach [f] X.env).map (·.2)=[assign f X.env]:=by rfl):PS X (.Assign [f] e pos) (Ee i g):=by
 intro d s j H D I h;refine wpAny_Assign_stores (CH (l d s j H _ I h) λv r ⟨x,t,u,w,z⟩=>?_) n o;rw[p];exact CH (m d r j t x v _ u w z) λ_ A q=>q
def eP{i:Nat}{x:Str}{e:Expr}{g:TE}{d:Pos}(j:X.N.Nodup)(l:X.N[i]? = some x)(m:Loc X.env.scope x)(n:PE X e g)(o:swapsWith e (some (.Name x d)) pos.line X.env=pure false:=by rfl)(p:X.fn x=true\/X.env.scope.names.lookup x=some .local:=by first|exact .inl rfl|exact .inr rfl|assumption):
  PS X (.Assign [.Name x d] e pos) (Ee g (fQ i)):=by
 intro f s q H D I h;refine wpAny_Assign_Name (CH (n f s q H _ I h) λv A ⟨y,r,t,u,w⟩=>?_) o;exact ic t j l m u (λB z=>⟨_,r,z,w⟩) p
def LG(i j:Nat)(e:TA):TS:=λD d H=>e d H λf g=>∃v w,f=[v,w]/\D.nx ((d.set i (some v)).set j (some w)) g
def GB{i j:Nat}{x y:Str}{a b:Expr}{G:TA}{n r t:Pos}{u z f}(Q:X.calm=true)(J:X.N.Nodup)(R:X.N[i]? = some x)(S:X.N[j]? = some y)(B:i≠j)
 (K:X.env.scope.names.lookup x=some .local)(L:X.env.scope.names.lookup y=some .local)(T:PA X [a,b] G)
 (U:swappedStores [.Tuple [.Name x n,.Name y r] u t] (.Tuple [a,b] z f) X.env=pure (some [x,y]))
 (V:swapsWithSole [.Tuple [.Name x n,.Name y r] u t] (.Tuple [a,b] z f) pos.line X.env=pure false:=by rfl):
  PS X (.Assign [.Tuple [.Name x n,.Name y r] u t] (.Tuple [a,b] z f) pos) (LG i j G):=by
 intro d s M H D I h;rw[exec_Assign_arm];refine Zd (Uy ?_);rw[V];refine Zd (Zu ?_);rw[if_neg vA];refine Zd (Tuple_ (CH (T _ d s M H _ I h) λW g ⟨vs,O,Y,Z,C⟩=>?_));obtain⟨v,w,e1,C⟩:=C
 subst e1;obtain⟨l,m,rfl,rv,E⟩:∃l m,W=[l,m]/\RelV v l/\RelV w m:=by
  cases Z with
  |cons p q=>
   cases q with
   |cons p' q'=>
    cases q';exact⟨_,_,rfl,p,p'⟩
 refine Jp ?_ (by show 2<=sizeLine;decide);have I2:Inv X d M O {g with heap:=g.heap.push {cls:=.type "tuple",data:=.seq [l,m].toArray} }:=Y.kept (t':=g.toks) λb o e=>Ze _ e
 rw[U];refine Zd (Zu ?_);show wpAny (model X.prog X.w) X.A (do rule "assign.swapped-stores"; let items <-unpackItems (.ref g.heap.objs.size) 2 none;assignInOrder [λv=>bindName X.env y v,λv=>bindName X.env x v] items.reverse;pure Flow.next) _ _ _;refine Zd (Jo (Zd (unpackItems_tuple (items:=#[l,m]) (I.ok.hd Q) (IsTup.new g.heap _) λh' F=>?_)));have I3:=I2.kept (h':=h') (t':=g.toks) λb o e=>F b o (Yj (Zo e)) e
 show wpAny _ _ (assignInOrder [λv=>bindName X.env y v,λv=>bindName X.env x v] [m,l] >>= λ_=>pure Flow.next) _ _ _;refine Zd (U0 (wpAny_bindName (ic I3 J S (.inl L) E (λs2 I4=>?_) (.inr L))));refine U0 (wpAny_bindName (ic I4 J R (.inl K) rv (λs3 P=>assignInOrder_nil (Zu ?_)) (.inr K)));rw[List.set_comm _ _ (Wz B)] at P;exact⟨_,O,P,C⟩
end
section
variable{X:Cx}{pos:Pos}
def FN(c:TT)(i:TS):TS:=λD d H=>∃W:Nat->St->Hp->Prop,(∃m,W m d H)/\∀m d H,W m d H ->
 c d H λb f=>if b=true then ∃N:St->Hp->Prop,(∀e g,N e g->∃h,h<m/\W h e g)/\i {D with nx:=N,ct:=N,bk:=D.nx} d f else D.nx d f
def mN{c:Expr}{i:List Stmt}{u:TT}{z:TS}(B:PassesOwn (model X.prog X.w) X.A X.env X.xe)(K:PT X c u)(L:PSs X i z):PS X (.While c i [] pos) (FN u z):=by
 intro d s M H D I h;obtain⟨W,⟨O,P⟩,turn⟩:=h
 refine wpAny_While (codeAny_whileLoop (λn Q=>∃j C,Inv X d j C Q/\W n j C) ?_ O ⟨M,H,I,P⟩);rintro n R ⟨g,E,S,T⟩
 refine Q0 B (CH (K d R g E _ S (turn n g E T)) λb U ⟨F,G,l⟩=>?_);cases b with
 |true=>
  obtain⟨N,J,l⟩:=l
  rw[if_pos rfl];refine Q0 B (CH (L d U g F _ G l) λf V m=>?_);cases f with
  |next=>
   obtain⟨e,H3,o,p⟩:=m
   obtain⟨q,r,t⟩:=J e H3 p
   exact⟨q,r,e,H3,o,t⟩
  |cont=>
   obtain⟨e,H3,o,p⟩:=m
   obtain⟨q,r,t⟩:=J e H3 p
   exact⟨q,r,e,H3,o,t⟩
  |brk=>exact m
  |ret v=>exact m
 |false=>
  rw[if_neg Z0];exact Ub ⟨g,F,G,l⟩
end
structure It where
 go:Nat->Hp->Prop
 yld:Nat->Hp->V->Hp->Prop
 stop:Nat->Hp->Prop
def CQ(X:Cx)(d:List (Addr×Obj))(H:Hp)(b:Addr):Prop:=
 H b=none/\b≠X.env.locals/\b∉X.fs/\(b∈X.ex\/X.s₀.heap.objs.size<=b)/\(∀x c,X.env.cells.lookup x=some c->c≠b)/\∀p∈X.pn++d,p.1≠b
def Inv.fpOk{X:Cx}{pins:List (Addr×Obj)}{σ:St}{H H':Hp}{s:Shared}{b:Addr}(I:Inv X pins σ H s)(d:s.heap.objs.size<=b)(f:H' b=none):CQ X pins H' b:=by
 refine⟨f,Yd (Zg I.lt d),I.nofs d,.inr (Y9 I.sz d),λx c e z=>?_,λp g z=>?_⟩
 ·obtain⟨v,q⟩:=I.cell x c e
  exact absurd (Zg q.lt (by rw[z];exact d)) (Wm _)
 ·exact absurd (Zg (Zo (I.pin p g).1) (by rw[z];exact d)) (Wm _)
structure Turn(P:Program)(w:World)(K:vE)(tg:Expr)(J:It)(fp:List Addr)(it:Addr)(tn:Nat->Heap->Prop):Prop where
 mem:it∈fp
 obj:∀i h,tn i h->∀b∈fp,∃o,h.get? b=some o/\∀v,o.data ≠ .cell v
 keep:∀i h h',tn i h->(∀b∈fp,∀o,h.get? b=some o->h'.get? b=some o)->tn i h'
 item:∀(X:Cx),X.prog=P->X.w=w->X.K=K->X.calm=true->∀(i:Nat) (pins:List (Addr×Obj)) (s:Shared) (σ:St) (H:Hp) (E:Value->Shared->Prop),Inv X pins σ H s->(∀b∈fp,CQ X pins H b)->tn i s.heap->J.go i H ->
  wpAny (model P w) X.A (pyNext (.ref it)) (λr s1=>∃u,r=some u /\
   wpAny (model P w) X.A (letOwnedTupleGo tg (.ref it) u) (λ_ s2=>∃x H',Inv X pins σ H' s2/\RelV x u/\J.yld i H x H'/\tn (i+1) s2.heap/\∀b∈fp,H' b=none) E s1) E s
 done:∀(X:Cx),X.prog=P->X.w=w->X.K=K->X.calm=true->∀(i:Nat) (pins:List (Addr×Obj)) (s:Shared) (σ:St) (H:Hp) (E:Value->Shared->Prop),Inv X pins σ H s->(∀b∈fp,CQ X pins H b)->tn i s.heap->J.stop i H ->
  wpAny (model P w) X.A (pyNext (.ref it)) (λr s1=>r=none/\Inv X pins σ H s1) E s
 self:∀(A:Around) (i:Nat) (s:Shared) (Q:Value->Shared->Prop) (E:Value->Shared->Prop),tn i s.heap->Q (.ref it) s->wpAny (model P w) A (pyIter (.ref it)) Q E s
abbrev TI:=St->Hp->(It->Hp->Prop)->Prop
def PIE(X:Cx)(d:List (Addr×Obj))(l:St)(m:Expr)(R:It->Hp->Prop)(e:Value)(g:Shared):Prop:=
 ∃(h:Addr) (i:List Addr) (j:Nat->Heap->Prop) (J:It) (f:Hp),e=.ref h/\Inv X d l f g/\Turn X.prog X.w X.K m J i h j/\j 0 g.heap/\(∀b∈i,CQ X d f b)/\R J f
def PI(X:Cx)(g e:Expr)(h:TI):Prop:=
 ∀(d:List (Addr×Obj)) (s:Shared) (f:St) (H:Hp) (R:It->Hp->Prop),Inv X d f H s->h f H R ->
  wpAny (model X.prog X.w) X.A (eval e X.env) (λv i=>wpAny (model X.prog X.w) X.A (pyIter v) (PIE X d f g R) X.xe i) X.xe s
def ik{M:Model}{A:Around}{E:Value->Shared->Prop}{s:Shared}{e:Expr}{f:Addr}{u:Value}{o:Obj}{n:String}{g:Array Value}{Q:Unit->Shared->Prop}(i:s.heap.get? f=some o)(j:o.cls=.type n)(l:o.data=.fields g)
   (m:["enumerate","zip","dict_itemiterator","dict_reverseitemiterator","odict_iterator","itertools.zip_longest","itertools.pairwise"].contains n=false)(d:Q () s):wpAny M A (letOwnedTupleGo e (.ref f) u) Q E s:=by
  unfold letOwnedTupleGo;cases e<;>first
    |exact Zu d
    | (cases u<;>first
        |exact Zu d
        | (refine Zd (wpAny_load i ?_)
           rw[j,l];show wpAny M A (if (["enumerate","zip","dict_itemiterator","dict_reverseitemiterator","odict_iterator","itertools.zip_longest","itertools.pairwise"].contains n && g[0]? == some (rawInt _))=true then _ else _) Q E s;rw[if_neg (by intro h;rw[m,Bool.false_and] at h;cases h)];exact Zu d))
def Mm(K:vE)(a:Addr):It:=
 ⟨λi H=>∃d x,SqL K H a d/\d[i]? = some x,λi H x e=>e=H/\∀d,SqL K H a d->d[i]? = some x,λi H=>∃d,SqL K H a d/\d.length<=i⟩
def Ml(K:vE)(a:Addr):It:=
 ⟨λi H=>∃d x,SqT K H a d/\d[i]? = some x,λi H x e=>e=H/\∀d,SqT K H a d->d[i]? = some x,λi H=>∃d,SqT K H a d/\d.length<=i⟩
def Ia(d:Int)(n:Nat):It:=⟨λi _=>i<n,λi H x e=>e=H/\x=.int (d+i),λi _=>n<=i⟩
def qN{P:Program}{w:World}{K:vE}{S:Expr}(a j:Addr):Turn P w K S (Mm K a) [j] j (λi h=>h.IsListIter j a i) where
 mem:=by simp
 obj:=λi h f b l=>by
  have e:b=j:=by simpa using l
  subst e;obtain⟨o,e,c,d⟩:=f
  exact⟨o,e,λv z=>by rw[d] at z;cases z⟩
 keep:=λi h n f k=>f.at λo e=>k j vC o e
 item:=by
  intro X t A B Q i g s R H E I q f C;subst t A B;obtain⟨T,x,r,D⟩:=C
  obtain⟨F,G,p,U⟩:=I.list r
  obtain⟨u,V,Y⟩:=G.get D
  obtain⟨J,L,Z,M,N,O⟩:=q j vC
  refine wpAny_pyNext_list_item f p.isList (x:=u) (by simpa using V) λn m sb=>?_;have I1:Inv X g R H {s with heap:=n}:=I.turned (t':=s.toks) (λb o l e=>(sb.2 b l).trans e) J L M N O;obtain⟨o,e,c,d⟩:=id m
  exact⟨u,rfl,ik (s:={s with heap:=n}) e c d vA ⟨x,H,I1,Y,⟨rfl,λys hy=>by rw[I.list_inj hy r];exact D⟩,m,λb l=>(q b l).1⟩⟩
 done:=by
  intro X t A B Q i g s R H E I q f C;subst t A B;obtain⟨T,r,D⟩:=C
  obtain⟨F,G,p,U⟩:=I.list r
  obtain⟨J,L,Z,M,N,O⟩:=q j vC
  have hl:=G.length;exact wpAny_pyNext_list_end (I.ok.hd Q) f p.isList (by simp;omega) λn eb=>⟨rfl,I.turned (t':=s.toks) (λb o l e=>eb b o l e) J L M N O⟩
 self:=λ_ _ _ _ _ f h=>wpAny_pyIter_listiter f h
def qO{P:Program}{w:World}{K:vE}{S:Expr}(a j:Addr):Turn P w K S (Ml K a) [j] j (λi h=>h.IsTupleIter j a i) where
 mem:=by simp
 obj:=λi h f b l=>by
  have e:b=j:=by simpa using l
  subst e;obtain⟨o,e,c,d⟩:=f
  exact⟨o,e,λv z=>by rw[d] at z;cases z⟩
 keep:=λi h q f k=>f.at λo e=>k j vC o e
 item:=by
  intro X A B C Q i g s R H E I r f D;subst A B C;obtain⟨T,x,t,F⟩:=D
  obtain⟨m,G,p,U⟩:=I.tuple t
  obtain⟨u,V,Y⟩:=G.get F
  obtain⟨J,L,Z,M,N,O⟩:=r j vC
  refine wpAny_pyNext_tuple_item f (show s.heap.IsTuple a m.toArray from p) (x:=u) (by simpa using V) λq n sb=>?_;have I1:Inv X g R H {s with heap:=q}:=I.turned (t':=s.toks) (λb o l e=>(sb.2 b l).trans e) J L M N O;obtain⟨o,e,c,d⟩:=id n
  exact⟨u,rfl,ik (s:={s with heap:=q}) e c d vA ⟨x,H,I1,Y,⟨rfl,λys hy=>by rw[I.tuple_inj hy t];exact F⟩,n,λb l=>(r b l).1⟩⟩
 done:=by
  intro X A B C Q i g s R H E I r f D;subst A B C;obtain⟨T,t,F⟩:=D
  obtain⟨m,G,p,U⟩:=I.tuple t
  obtain⟨J,L,Z,M,N,O⟩:=r j vC
  have hl:=G.length;exact wpAny_pyNext_tuple_end (I.ok.hd Q) f (show s.heap.IsTuple a m.toArray from p) (by simp;omega) λq eb=>⟨rfl,I.turned (t':=s.toks) (λb o l e=>eb b o l e) J L M N O⟩
 self:=λ_ _ _ _ _ f h=>wpAny_pyIter_tupleiter f h
def qP{P:Program}{w:World}{K:vE}{O:Expr}(f:Addr)(m:Int)(n:Nat):Turn P w K O (Ia m n) [f] f (λi h=>IsRangeIter h f (m+(i:Nat)*1) ((n:Int)-(i:Nat)) 1) where
 mem:=by simp
 obj:=λi h d b j=>by
  have e:b=f:=by simpa using j
  subst e;exact⟨_,d,λv z=>by
   have Q:Data.fields _=Data.cell v:=z;cases Q⟩
 keep:=λi h p d k=>k f vC _ d
 item:=by
  intro X r u A B i g s M H E I q d C;subst r u A;obtain⟨D,F,R,G,J,L⟩:=q f vC
  have W:=Walks.range (prog:=X.prog) (w:=X.w) (I.ok.hd B) f m 1 n;refine W.item i s _ _ C d λv p N S l T=>?_;obtain⟨t,rfl⟩:=S
  have U:Inv X g M H {s with heap:=p,toks:=N}:=I.turned (λb o j e=>T b o (by simpa using j) e) D F G J L;refine⟨_,rfl,ik (s:={s with heap:=p,toks:=N}) (n := "range_iterator") l rfl rfl vA ⟨.int (m+i),H,U,⟨t,?_⟩,⟨rfl,rfl⟩,l,λb j=>(q b j).1⟩⟩
  rw[Ue]
 done:=by
  intro X r u A B i g s M H E I q d C;subst r u A;obtain⟨D,F,R,G,J,L⟩:=q f vC
  exact wpAny_pyNext_range_end (I.ok.hd B) d (by have:n<=i:=C;omega) λp V=>⟨rfl,I.turned (t':=s.toks) (λb o j e=>V b o j e) D F G J L⟩
 self:=λ_ _ _ _ _ d h=>wpAny_pyIter_rangeiter d h
section
variable{X:Cx}{tg:Expr}
def JU(K:vE)(e:TE):TI:=λf H R=>e f H λx d=>∃a,x=.ref a/\(∃g,SqL K d a g)/\R (Mm K a) d
def L5(K:vE)(e:TE):TI:=λf H R=>e f H λx d=>∃a,x=.ref a/\(∃g,SqT K d a g)/\R (Ml K a) d
def kc{l:Expr}{i:TE}(j:PE X l i):PI X tg l (JU X.K i):=by
 intro d s m H R I h;refine CH (j d s m H _ I h) λv f ⟨x,n,g,r,t⟩=>?_;obtain⟨a,e,⟨A,u⟩,q⟩:=t
 subst e;cases r;obtain⟨w,B,p,C⟩:=g.list u
 refine U7 p.isList ?_;refine⟨f.heap.objs.size,[f.heap.objs.size],_,_,n,rfl,g.kept (t':=f.toks) λb o e=>Ze _ e,qN a _,⟨_,Z4 _ rfl,rfl,rfl⟩,λb z=>?_,q⟩
 have e:b=f.heap.objs.size:=by simpa using z
 subst e;exact g.fpOk (Zn _) (g.hok.fresh (Zn _))
def kd{l:Expr}{j:TE}(m:PE X l j):PI X tg l (L5 X.K j):=by
 intro d s n H R I h;refine CH (m d s n H _ I h) λv f ⟨x,r,g,t,u⟩=>?_;obtain⟨a,e,⟨A,w⟩,q⟩:=u
 subst e;cases t;obtain⟨i,B,p,C⟩:=g.tuple w
 refine wpAny_pyIter_tuple (show f.heap.IsTuple a i.toArray from p) ?_;refine⟨f.heap.objs.size,[f.heap.objs.size],_,_,r,rfl,g.kept (t':=f.toks) λb o e=>Ze _ e,qO a _,⟨_,Z4 _ rfl,rfl,rfl⟩,λb z=>?_,q⟩
 have e:b=f.heap.objs.size:=by simpa using z
 subst e;exact g.fpOk (Zn _) (g.hok.fresh (Zn _))
def qQ{g:List (Addr×Obj)}{h:St}{H:Hp}{s:Shared}{R:It->Hp->Prop}{E:Value->Shared->Prop}{d f:Int}{t u v:Tok}{i:Nat}(I:Inv X g h H s)(l : -(2^62)<=d)(m:d<2^62)(n : -(2^62)<=f)(p:f<2^62)
 (q:R (Ia d (f-d).toNat) H):wpAny (model X.prog X.w) X.A (pyIter (.ref s.heap.objs.size)) (PIE X g h tg R) E {s with heap:=s.heap.push {cls:=.type "range",data:=.fields #[.int d t,.int f u,.int 1 v]},toks:=i}:=by
 refine wpAny_pyIter_range (IsRange.new ..) (small_one l m n p) ?_;have j:Inv X g h H {s with heap:=s.heap.push {cls:=.type "range",data:=.fields #[.int d t,.int f u,.int 1 v]},toks:=i}:=I.kept λb o e=>Ze _ e
 refine⟨(s.heap.push {cls:=.type "range",data:=.fields #[.int d t,.int f u,.int 1 v]}).objs.size,[(s.heap.push {cls:=.type "range",data:=.fields #[.int d t,.int f u,.int 1 v]}).objs.size],_,_,H,rfl,
  j.kept (t':=i) λb o e=>Ze _ e,qP _ d (f-d).toNat,?_,λb r=>?_,q⟩
 ·have z:d+((0:Nat):Int)*1=d:=by simp
  have B:(((f-d).toNat:Nat):Int)-((0:Nat):Int)=Builtin.Range.rangeSize d f 1:=by rw[rangeSize_one];split<;>omega
  show IsRangeIter _ _ (d+((0:Nat):Int)*1) ((((f-d).toNat:Nat):Int)-((0:Nat):Int)) 1;rw[z,B];exact Z4 _ rfl
 ·have e:b=(s.heap.push {cls:=.type "range",data:=.fields #[.int d t,.int f u,.int 1 v]}).objs.size:=by simpa using r
  subst e;exact j.fpOk (Zn _) (j.hok.fresh (Zn _))
def JT(d:TA):TI:=λe H R=>d e H λf g=>∃j:Int,f=[.int j] /\ -(2^62)<=j/\j<2^62/\R (Ia 0 j.toNat) g
def kf{a:Expr}{g:TA}{p pos:Pos}(i:Gl X "range")(l:X.mg "range" = none)(m:PA X [a] g)(n:starEach [a] X.env=[(false,eval a X.env)]:=by rfl):PI X tg (.Call (.Name "range" p) [a] [] pos) (JT g):=by
 intro d s o H R I h;refine Call_ (cU I i l boot_range (Y3 (CH (m pos d s o H _ I h) λA B ⟨C,D,u,v,f⟩=>?_) n rfl));obtain⟨j,e,f,w,q⟩:=f
 subst e;cases v with
 |cons r z=>
  cases z;obtain⟨t,rfl⟩:=r
  exact call_range_1 (qQ u vB vB f w (by simpa using q))
def LL(l:TI)(g:TG)(n:TS):TS:=λD d H=>l d H λJ o=>∃W:Nat->Nat->St->Hp->Prop,(∃m,W 0 m d o)/\∀i m d H,W i m d H ->
 (J.stop i H/\D.nx d H)\/(J.go i H/\∃N:St->Hp->Prop,(∀e f,N e f->∃j,j<m/\W (i+1) j e f)/\∀x f,J.yld i H x f->g x d f λh p=>n {D with nx:=N,ct:=N,bk:=D.nx} h p)
def eQ(d:List Addr)(h:Heap):List (Addr×Obj):=d.filterMap λb=>(h.get? b).map λo=>(b,o)
def il{d:List Addr}{h:Heap}{b:Addr}{o:Obj}(f:b∈d)(e:h.get? b=some o):(b,o)∈eQ d h:=Uf.mpr ⟨b,f,by rw[e];rfl⟩
def qR{d:List Addr}{h:Heap}{p:Addr×Obj}(f:p∈eQ d h):p.1∈d/\h.get? p.1=some p.2:=by
 obtain⟨b,g,e⟩:=Uf.mp f
 cases q:h.get? b with
 |none=>rw[q] at e;cases e
 |some o=>
  rw[q] at e;have i:(b,o)=p:=Zs e;subst i;exact⟨g,q⟩
def Inv.pinned{pins:List (Addr×Obj)}{σ:St}{H:Hp}{s:Shared}{f:List Addr}(I:Inv X pins σ H s)(i:∀b∈f,CQ X pins H b)(j:∀b∈f,∃o,s.heap.get? b=some o/\∀v,o.data ≠ .cell v):Inv X (pins++eQ f s.heap) σ H s:=
 I.pins_of λp l=>(Yw.mp l).elim (λz=>I.pin p (Yn _ z)) λz=>by
  obtain⟨g,e⟩:=qR z
  obtain⟨m,n,q,_⟩:=i p.1 g
  obtain⟨o,h,d⟩:=j p.1 g
  rw[e] at h;cases h;exact⟨e,m,n,q,d⟩
def Inv.unpinned{pins pl:List (Addr×Obj)}{σ:St}{H:Hp}{s:Shared}(I:Inv X (pins++pl) σ H s):Inv X pins σ H s:=I.pins_of λp d=>I.pin p (Yn _ (Qw _ d))
def kg{p:Expr}{K:List Stmt}{wi:TI}{g:TG}{tb:TS}{pos:Pos}(O:PassesOwn (model X.prog X.w) X.A X.env X.xe)(hc:X.calm=true)(hi:PI X tg p wi)(hg:PG X tg g)(q:PSs X K tb)
 (hs:∀x,foldedSetIterable p X.env x=pure x:=by intro _;rfl):PS X (.For tg p K [] pos) (LL wi g tb):=by
 intro j s σ H D I h;refine wpAny_For (CH (hi j s σ H _ I h) λv s1 h1=>CH h1 λa1 s2 h2=>?_) hs;obtain⟨it,P,tn,J,H2,e,I2,T,U,f2,W,⟨m0,w0⟩,turn⟩:=h2
 subst e;have t:∀{G:Hp},(∀b∈P,G b=none)->∀b∈P,CQ X j G b:=λhn b q=>⟨hn b q,(f2 b q).2⟩
 refine codeAny_forLoop_any (λn s'=>∃i z G,Inv X j z G s'/\tn i s'.heap/\(∀b∈P,G b=none)/\W i n z G) ?_ m0 ⟨0,σ,H2,I2,U,λb q=>(f2 b q).1,w0⟩;rintro n s3 ⟨i,B,H3,I3,Q,R,w3⟩
 rcases turn i n B H3 w3 with⟨stop,qn⟩|⟨go,N,hN,step⟩
 ·refine Q0 O (CH (T.done X rfl rfl rfl hc i j s3 B H3 X.xe I3 (t R) Q stop) λr s4 ⟨V,I4⟩=>?_);subst V;exact Ub ⟨B,H3,I4,qn⟩
 ·refine Q0 O (CH (T.item X rfl rfl rfl hc i j s3 B H3 X.xe I3 (t R) Q go) λr s4 ⟨u,V,h4⟩=>?_);subst V;refine Q0 O (CH h4 λ_ s5 ⟨x,H5,I5,r5,y5,M,Y⟩=>?_);have Z:=I5.pinned (t Y) (T.obj _ _ M);refine Q0 O (CH (hg _ s5 B H5 x u _ Z r5 (step x H5 y5)) λ_ s6 ⟨a0,H6,I6,q6⟩=>?_);refine Q0 O (CH (q _ s6 a0 H6 _ I6 q6) λf s7 L=>?_);have C:∀{l:St}{E:Hp},Inv X (j++eQ P s5.heap) l E s7->N l E->∃m,m<n/\∃i z G,Inv X j z G s7/\tn i s7.heap/\(∀b∈P,G b=none)/\W i m z G:=λ{l E} F S=>by
   obtain⟨m',hm,w7⟩:=hN l E S
   refine⟨m',hm,i+1,l,E,F.unpinned,T.keep _ _ _ M λb q o e=>(F.pin (b,o) (Yn _ (Yn _ (il q e)))).1,λb q=>?_,w7⟩
   obtain⟨o,e,d⟩:=T.obj _ _ M b q
   exact(F.pin (b,o) (Yn _ (Yn _ (il q e)))).2.1
  cases f with
  |next=>obtain⟨l,E,F,S⟩:=L;exact C F S
  |cont=>obtain⟨l,E,F,S⟩:=L;exact C F S
  |brk=>obtain⟨l,E,F,L⟩:=L;exact⟨l,E,F.unpinned,L⟩
  |ret v=>obtain⟨x7,l,E,F,r7,L⟩:=L;exact⟨x7,l,E,F.unpinned,r7,L⟩
end
def qS{o:Int}{n:Nat}{g:TG}{r:TS}{D:Ends}{d:St}{H:Hp}(f:Nat->St->Hp->Prop)(t:f 0 d H)
 (u:∀i d H,i<n->f i d H->g (.int (o+i)) d H λh q=>r {D with nx:=f (i+1),ct:=f (i+1),bk:=D.nx} h q)(v:∀d H,f n d H->D.nx d H):
  ∃W:Nat->Nat->St->Hp->Prop,(∃m,W 0 m d H)/\∀i m d H,W i m d H ->
   ((Ia o n).stop i H/\D.nx d H)\/((Ia o n).go i H/\∃N:St->Hp->Prop,(∀σ' j,N σ' j->∃s,s<m/\W (i+1) s σ' j)/\∀x j,(Ia o n).yld i H x j->g x d j λh q=>r {D with nx:=N,ct:=N,bk:=D.nx} h q):=by
 refine⟨λi m d H=>m=n-i/\i<=n/\f i d H,⟨n,by simp,Y8 _,t⟩,?_⟩
 rintro i m d H ⟨rfl,z,p⟩
 by_cases l:i<n
 ·refine .inr ⟨l,f (i+1),λσ' j w=>⟨n-(i+1),by omega,rfl,l,w⟩,λx j y=>?_⟩;obtain⟨e,y⟩:=y
  subst e y;exact u i d _ l p
 ·have e:i=n:=by omega
  subst e;exact .inl ⟨Zn _,v d H p⟩
abbrev R2:=V->V->Hp->VK->Prop
def Dk(X:Cx)(f:Value->Value->Sem Value)(r:R2):Prop:=
 ∀(d:List (Addr×Obj)) (s:Shared) (e:St) (H:Hp) (x y:V) (v u:Value) (Q:VK),Inv X d e H s->RelV x v->RelV y u->r x y H Q ->
  wpAny (model X.prog X.w) X.A (f v u) (EP X d e Q) X.xe s
def Mf(X:Cx)(f:Value->Sem Value)(r:V->Hp->VK->Prop):Prop:=
 ∀(d:List (Addr×Obj)) (s:Shared) (e:St) (H:Hp) (x:V) (v:Value) (Q:VK),Inv X d e H s->RelV x v->r x H Q ->
  wpAny (model X.prog X.w) X.A (f v) (EP X d e Q) X.xe s
def cb(X:Cx)(f:Value)(r:List V->Hp->VK->Prop):Prop:=
 ∀(d:List (Addr×Obj)) (s:Shared) (e:St) (H:Hp) (g:List V) (h:List Value) (Q:VK),Inv X d e H s->Vals g h->r g H Q ->
  wpAny (model X.prog X.w) X.A (call f h) (EP X d e Q) X.xe s
def IC(r:R2)(e f:TE):TE:=λd H Q=>e d H λx g=>f d g λy h=>r x y h Q
def tUn(r:V->Hp->VK->Prop)(d:TE):TE:=λe H Q=>d e H λx f=>r x f Q
def rI(C:Int->Int->Prop)(g:Int->Int->V):R2:=λx y H Q=>∃i j,x=.int i/\y=.int j/\C i j/\Q (g i j) H
def Eu(g:Int->Int->V):R2:=λx y H Q=>∃i j,x=.int i/\y=.int j/\Q (g i j) H
def rU(g:Int->V):V->Hp->VK->Prop:=λx H Q=>∃i,x=.int i/\Q (g i) H
section
variable{X:Cx}{a b c:Expr}{ta tb tc:TE}{pos:Pos}
def HQ(n:PE X a ta)(o:PE X b tb){d:List (Addr×Obj)}{s:Shared}{e:St}{H:Hp}{R:V->V->Hp->Prop}(I:Inv X d e H s)
 (h:ta e H λx m=>tb e m λy g=>R x y g){Q:Value->Shared->Prop}{f:Value->Value->Sem Value}
 (p:∀v u l x y g,Inv X d e g l->RelV x v->RelV y u->R x y g->wpAny (model X.prog X.w) X.A (f v u) Q X.xe l):
  wpAny (model X.prog X.w) X.A (eval a X.env) (λv i=>wpAny (model X.prog X.w) X.A (eval b X.env) (λu j=>wpAny (model X.prog X.w) X.A (f v u) Q X.xe j) X.xe i) X.xe s:=by
 refine CH (n d s e H _ I h) λv q ⟨x,m,r,t,z⟩=>?_;refine CH (o d q e m _ r z) λu l ⟨y,g,B,C,D⟩=>?_;exact p v u l x y g B t C D
def kh{e:Operator}{r:R2}(f:Dk X (binaryOp e) r)(g:PE X a ta)(i:PE X b tb):PE X (.BinOp a e b pos) (IC r ta tb):=by
 intro d s j H Q I h;exact wpAny_BinOp (HQ g i I h λv u l x y m n o p q=>f d l j m x y v u Q n o p q)
def IY{e:UnaryOp}{r:V->Hp->VK->Prop}(g:Mf X (unaryOp e) r)(i:PE X a ta):PE X (.UnaryOp e a pos) (tUn r ta):=by
 intro d s f H Q I h;exact UnaryOp_ (CH (i d s f H _ I h) λv j ⟨x,l,m,n,o⟩=>g d j f l x v Q m n o)
def opI{f:Value->Value->Sem Value}{C:Int->Int->Prop}{g:Int->Int->Int}
 (d:∀(i j:Int) (t u:Tok) (s:Shared) (Q:Value->Shared->Prop) (E:Value->Shared->Prop),C i j->Q (.int (g i j) s.toks) {s with toks:=s.toks+1}->wpAny (model X.prog X.w) X.A (f (.int i t) (.int j u)) Q E s):
  Dk X f (rI C λi j=>.int (g i j)):=by
 intro e s p H x y v u Q I l m h;obtain⟨i,j,rfl,rfl,n,q⟩:=h
 obtain⟨t,rfl⟩:=l
 obtain⟨o,rfl⟩:=m
 exact d i j t o s _ _ n ⟨.int (g i j),H,I.tok _,⟨_,rfl⟩,q⟩
def opI0{f:Value->Value->Sem Value}{g:Int->Int->Int}
 (d:∀(i j:Int) (t u:Tok) (s:Shared) (Q:Value->Shared->Prop) (E:Value->Shared->Prop),Q (.int (g i j) s.toks) {s with toks:=s.toks+1}->wpAny (model X.prog X.w) X.A (f (.int i t) (.int j u)) Q E s):
  Dk X f (Eu λi j=>.int (g i j)):=by
 intro e s o H x y v u Q I l m h;obtain⟨i,j,rfl,rfl,q⟩:=h
 obtain⟨t,rfl⟩:=l
 obtain⟨n,rfl⟩:=m
 exact d i j t n s _ _ ⟨.int (g i j),H,I.tok _,⟨_,rfl⟩,q⟩
def EC{f:Value->Value->Sem Value}{g:Int->Int->Bool}
 (d:∀(i j:Int) (t u:Tok) (s:Shared) (Q:Value->Shared->Prop) (E:Value->Shared->Prop),Q (.bool (g i j)) s->wpAny (model X.prog X.w) X.A (f (.int i t) (.int j u)) Q E s):
  Dk X f (Eu λi j=>.bl (g i j)):=by
 intro e s o H x y v u Q I l m h;obtain⟨i,j,rfl,rfl,q⟩:=h
 obtain⟨t,rfl⟩:=l
 obtain⟨n,rfl⟩:=m
 exact d i j t n s _ _ ⟨.bl (g i j),H,I,rfl,q⟩
def Mp(i j:Int):Prop:=0<=j/\j<=1000000/\i.natAbs<2^64
def op_add:Dk X (binaryOp .Add) (Eu λi j=>.int (i+j)):=opI0 λ_ _ _ _ _ _ _ q=>add_int q
def op_sub:Dk X (binaryOp .Sub) (Eu λi j=>.int (i-j)):=opI0 λ_ _ _ _ _ _ _ q=>sub_int q
def qT:Dk X (binaryOp .Mod) (rI (λ_ j=>j≠0) λi j=>.int (i.fmod j)):=opI λ_ _ _ _ _ _ _ d q=>mod_int' d q
def op_pow:Dk X (binaryOp .Pow) (rI Mp λi j=>.int (i^j.toNat)):=opI λ_ _ _ _ _ _ _ d q=>pow_int_small d.1 d.2.1 d.2.2 q
def unI{f:Value->Sem Value}{g:Int->Int}
 (d:∀(i:Int) (t:Tok) (s:Shared) (Q:Value->Shared->Prop) (E:Value->Shared->Prop),Q (.int (g i) s.toks) {s with toks:=s.toks+1}->wpAny (model X.prog X.w) X.A (f (.int i t)) Q E s):
  Mf X f (rU λi=>.int (g i)):=by
 intro e s l H x v Q I j h;obtain⟨i,rfl,q⟩:=h
 obtain⟨t,rfl⟩:=j
 exact d i t s _ _ ⟨.int (g i),H,I.tok _,⟨_,rfl⟩,q⟩
def Fy:Mf X (unaryOp .USub) (rU λi=>.int (-i)):=unI λ_ _ _ _ _ q=>neg_int q
end
def IL:V->V->Bool
 |.non,.non=>true|.non,.int _=>true|.int _,.non=>true|.non,.bl _=>true|.bl _,.non=>true|.non,.str _=>true|.str _,.non=>true
 |.int _,.int _=>true|.bl _,.bl _=>true|.str _,.str _=>true|.byt _,.byt _=>true
 |.int _,.str _=>true|.str _,.int _=>true|.bl _,.str _=>true|.str _,.bl _=>true
 |_,_=>false
def rEq:R2:=λx y H Q=>IL x y=true/\Q (.bl (decide (x=y))) H
def rNe:R2:=λx y H Q=>IL x y=true/\Q (.bl (!decide (x=y))) H
def ip{i j:Int}:decide (V.int i=V.int j)=(i == j):=by
 rw[Ky];simp
def iq{i j:Bool}:decide (V.bl i=V.bl j)=(i == j):=by
 rw[Ky];simp
def mO{i j:Str}:decide (V.str i=V.str j)=(i == j):=by
 rw[Ky];simp
def mP{i j:Array UInt8}:decide (V.byt i=V.byt j)=(i.toList == j.toList):=by
 rw[Ky];cases i;cases j;simp
section
variable{X:Cx}{a b c:Expr}{ta tb tc:TE}{pos:Pos}
def Bw{d:List (Addr×Obj)}{f:St}{H:Hp}{s:Shared}{Q:VK}{k g:Bool}(I:Inv X d f H s)(q:Q (.bl k) H)(e:k=g):EP X d f Q (.bool g) s:=by
 subst e;exact⟨.bl k,H,I,rfl,q⟩
def Fd:Dk X (compareOp .Eq) rEq:=by
 intro l s m H x y v u Q I g d h;obtain⟨f,q⟩:=h
 cases x with
 |non=>
  cases g;cases y with
  |non=>cases d;exact PySem.EqNone.eq_none_none (Bw I q vC)
  |bl j=>cases d;exact PySem.EqNone.eq_none_bool (Bw I q vC)
  |int j=>obtain⟨e,rfl⟩:=d;exact PySem.EqNone.eq_none_int (Bw I q vC)
  |str j=>obtain⟨e,rfl⟩:=d;exact PySem.EqNone.eq_none_str (Bw I q vC)
  |_=>exact absurd (show false=true from f) Z0
 |bl i=>
  cases g;cases y with
  |non=>cases d;exact PySem.EqNone.eq_bool_none (Bw I q vC)
  |bl j=>cases d;exact eq_bool (Bw I q iq)
  |str j=>obtain⟨e,rfl⟩:=d;exact PySem.EqMixed.eq_bool_str (Bw I q vC)
  |_=>exact absurd (show false=true from f) Z0
 |int i=>
  obtain⟨t,rfl⟩:=g
  cases y with
  |non=>cases d;exact PySem.EqNone.eq_int_none (Bw I q vC)
  |int j=>obtain⟨e,rfl⟩:=d;exact eq_int (Bw I q ip)
  |str j=>obtain⟨e,rfl⟩:=d;exact PySem.EqMixed.eq_int_str (Bw I q vC)
  |_=>exact absurd (show false=true from f) Z0
 |str i=>
  obtain⟨t,rfl⟩:=g
  cases y with
  |non=>cases d;exact PySem.EqNone.eq_str_none (Bw I q vC)
  |bl j=>cases d;exact PySem.EqMixed.eq_str_bool (Bw I q vC)
  |int j=>obtain⟨e,rfl⟩:=d;exact PySem.EqMixed.eq_str_int (Bw I q vC)
  |str j=>obtain⟨e,rfl⟩:=d;exact eq_str (Bw I q mO)
  |_=>exact absurd (show false=true from f) Z0
 |byt i=>
  obtain⟨t,rfl⟩:=g
  cases y with
  |byt j=>obtain⟨e,rfl⟩:=d;exact PySem.W.eq_bytes (Bw I q mP)
  |_=>exact absurd (show false=true from f) Z0
 |_=>cases y<;>exact absurd (show false=true from f) Z0
def Fb:Dk X (compareOp .NotEq) rNe:=by
 intro l s m H x y v u Q I g d h;obtain⟨f,q⟩:=h
 cases x with
 |non=>
  cases g;cases y with
  |non=>cases d;exact PySem.EqNone.ne_none_none (Bw I q vC)
  |bl j=>cases d;exact PySem.EqNone.ne_none_bool (Bw I q vC)
  |int j=>obtain⟨e,rfl⟩:=d;exact PySem.EqNone.ne_none_int (Bw I q vC)
  |str j=>obtain⟨e,rfl⟩:=d;exact PySem.EqNone.ne_none_str (Bw I q vC)
  |_=>exact absurd (show false=true from f) Z0
 |bl i=>
  cases g;cases y with
  |non=>cases d;exact PySem.EqNone.ne_bool_none (Bw I q vC)
  |bl j=>cases d;exact ne_bool (Bw I q (congrArg not iq))
  |str j=>obtain⟨e,rfl⟩:=d;exact PySem.EqMixed.ne_bool_str (Bw I q vC)
  |_=>exact absurd (show false=true from f) Z0
 |int i=>
  obtain⟨t,rfl⟩:=g
  cases y with
  |non=>cases d;exact PySem.EqNone.ne_int_none (Bw I q vC)
  |int j=>obtain⟨e,rfl⟩:=d;exact ne_int (Bw I q (congrArg not ip))
  |str j=>obtain⟨e,rfl⟩:=d;exact PySem.EqMixed.ne_int_str (Bw I q vC)
  |_=>exact absurd (show false=true from f) Z0
 |str i=>
  obtain⟨t,rfl⟩:=g
  cases y with
  |non=>cases d;exact PySem.EqNone.ne_str_none (Bw I q vC)
  |bl j=>cases d;exact PySem.EqMixed.ne_str_bool (Bw I q vC)
  |int j=>obtain⟨e,rfl⟩:=d;exact PySem.EqMixed.ne_str_int (Bw I q vC)
  |str j=>obtain⟨e,rfl⟩:=d;exact ne_str (Bw I q (congrArg not mO))
  |_=>exact absurd (show false=true from f) Z0
 |byt i=>
  obtain⟨t,rfl⟩:=g
  cases y with
  |byt j=>obtain⟨e,rfl⟩:=d;exact PySem.W.ne_bytes (Bw I q (congrArg not mP))
  |_=>exact absurd (show false=true from f) Z0
 |_=>cases y<;>exact absurd (show false=true from f) Z0
def I8:Dk X (compareOp .Lt) (Eu λi j=>.bl (decide (i<j))):=EC λ_ _ _ _ _ _ _ q=>lt_int q
def I9:Dk X (compareOp .LtE) (Eu λi j=>.bl (decide (i<=j))):=EC λ_ _ _ _ _ _ _ q=>le_int q
def JA:Dk X (compareOp .Gt) (Eu λi j=>.bl (decide (j<i))):=EC λ_ _ _ _ _ _ _ q=>gt_int q
def JB:Dk X (compareOp .GtE) (Eu λi j=>.bl (decide (j<=i))):=EC λ_ _ _ _ _ _ _ q=>ge_int q
def GL:Dk X (compareOp .Is) (λx y H Q=>y=.non/\Q (.bl (decide (x=.non))) H):=by
 intro d s g H x y v u Q I e f h;obtain⟨rfl,q⟩:=h
 cases f;refine is_none_gen (Bw I q ?_);cases x<;>first
  |(cases e;rfl)
  |(obtain⟨t,rfl⟩:=e;rfl)
def qU:Dk X (compareOp .IsNot) (λx y H Q=>y=.non/\Q (.bl (!decide (x=.non))) H):=by
 intro d s g H x y v u Q I e f h;obtain⟨rfl,q⟩:=h
 cases f;refine isnot_none_gen (Bw I q ?_);cases x<;>first
  |(cases e;rfl)
  |(obtain⟨t,rfl⟩:=e;rfl)
def qV{e:CmpOp}{r:R2}(f:Dk X (compareOp e) r)(g:PE X a ta)(i:PE X b tb)(j:behindInMarks e b=false):PE X (.Compare a [e] [b] pos) (IC r ta tb):=by
 intro d s l H Q I h;exact wpAny_Compare1 (HQ g i I h λv u m x y n o p t q=>f d m l n x y v u Q o p t q) j
def Iz(t:TE):TT:=λd H Q=>t d H λx e=>∃k,x=.bl k/\Q k e
def qW{f:CmpOp}{r:R2}(i:Dk X (compareOp f) r)(j:PE X a ta)(l:PE X b tb)(m:behindInMarks f b=false):PT X (.Compare a [f] [b] pos) (Iz (IC r ta tb)):=by
 intro d s g H Q I h;refine wpAny_isTrue_Compare1 (CH (j d s g H _ I h) λv n ⟨x,o,p,q,t⟩=>CH (l d n g o _ p t) λu w ⟨y,A,B,C,D⟩=>
  CH (i d w g A x y v u _ B q C D) λc J ⟨z,H3,E,F,k,e,G⟩=>?_) m
 subst e;cases F;exact Q5 ⟨H3,E,G⟩
def ir:(sizeLine:Nat)<2^63:=by rw[sizeLine_eq];decide
def cI{x:V}{us:List Value}(r:Vals [x] us):∃u,us=[u]/\RelV x u:=by
 cases r with
 |cons d e=>cases e;exact⟨_,rfl,d⟩
def iu{x y:V}{us:List Value}(r:Vals [x,y] us):∃u d,us=[u,d]/\RelV x u/\RelV y d:=by
 cases r with
 |cons e f=>
  cases f with
  |cons g h=>cases h;exact⟨_,_,rfl,e,g⟩
def qX:cb X (.builtin "abs") (λd H Q=>∃i,d=[.int i]/\Q (.int (if i<0 then -i else i)) H):=by
 intro e s f H d g Q I r h;obtain⟨i,rfl,q⟩:=h
 obtain⟨u,rfl,t,rfl⟩:=cI r
 exact call_abs_int λu j=>⟨.int (if i<0 then -i else i),H,I.tok _,⟨_,rfl⟩,q⟩
def qY(g:X.calm=true):cb X (.builtin "max") (λe H Q=>∃i j,e=[.int i,.int j]/\Q (.int (if j > i then j else i)) H):=by
 intro f s l H e m Q I r h;obtain⟨i,j,rfl,q⟩:=h
 obtain⟨u,n,rfl,⟨t,rfl⟩,⟨o,rfl⟩⟩:=iu r
 refine max_two_ints (I.ok.hd g) λp v k=>⟨_,H,I.kept k,?_,q⟩
 by_cases d:j > i
 ·rw[if_pos d,if_pos d];exact⟨_,rfl⟩
 ·rw[if_neg d,if_neg d];exact⟨_,rfl⟩
def qZ(g:X.calm=true):cb X (.builtin "min") (λe H Q=>∃i j,e=[.int i,.int j]/\Q (.int (if j<i then j else i)) H):=by
 intro f s l H e m Q I r h;obtain⟨i,j,rfl,q⟩:=h
 obtain⟨u,n,rfl,⟨t,rfl⟩,⟨o,rfl⟩⟩:=iu r
 refine min_two_ints (I.ok.hd g) λp v k=>⟨_,H,I.kept k,?_,q⟩
 by_cases d:j<i
 ·rw[if_pos d,if_pos d];exact⟨_,rfl⟩
 ·rw[if_neg d,if_neg d];exact⟨_,rfl⟩
end
structure ObjM(h:Heap)(x dx C:Addr)(mA:Str->Option Value):Prop where
 obj:h.get? x=some (PySem.W.instObj C dx)
 ns:h.Ns1 dx mA
 ne:dx≠x
def rb{h:Heap}{f:Addr}{g:Str->Option Value}(n:h.Ns1 f g):∃i,h.get? f=some i/\∀name,PySem.W.lookIn name i=some (g name):=by
 obtain⟨o,j,v,l,m,p,_,r⟩:=n
 refine⟨o,l,λname=>?_⟩
 have e:=r name;unfold nsFind findBy at e;rw[<-Array.find?_toList] at e;unfold PySem.W.lookIn;rw[m];dsimp only;split
 ·rename_i y q;rw[q] at e;exact congrArg some e
 ·rename_i q;rw[q] at e;have a:j.toList.any (·.refKey)=false:=by
   rw[List.any_eq_false];intro y s;obtain⟨z,t,d⟩:=p y (Vw.mp s)
   simp[DictEntry.refKey,d]
  have u:¬j.toList.any (·.refKey)=true:=by rw[a];exact Z0
  rw[if_neg u];exact congrArg some e
def ObjM.look{h:Heap}{x dx C:Addr}{mA:Str->Option Value}(I:ObjM h x dx C mA):∃d,PySem.W.InstAt h x (PySem.W.instObj C dx) C (some d)/\∀name,PySem.W.lookIn name d=some (mA name):=
 let ⟨d,e,f⟩:=rb I.ns
 ⟨d,⟨I.obj,rfl,rfl,e⟩,f⟩
section
variable{prog:Program}{w:World}{A:Around}{E:Value->Shared->Prop}{s:Shared}{K:vE}{x dx C f:Addr}{mA:Str->Option Value}{name:Str}{v:Value}
def rd{d:Bool}{Q:Value->Shared->Prop}(X:K.In s.heap)(I:ObjM s.heap x dx C mA)(f:PySem.W.plainGet K C name=true)(g:PySem.W.hasDictIn K C=true)
 (i:PySem.W.findIn K (.ref C) name=some none)(j:mA name=some v)(e:PySem.W.handedIn v=true)(h:Q v {s with toks:=s.toks+1}):
  wpAny (model prog w) A (getAttr (.ref x) name d) Q E s:=by
 obtain⟨m,J,l⟩:=I.look
 exact PySem.W.get_value X J (PySem.W.plainGet_of f).1 (PySem.W.findObj_own g i rfl (by rw[l,j])) e h
def rh{m:List Str}{Q:Unit->Shared->Prop}(X:K.In s.heap)(I:ObjM s.heap x dx C mA)
 (n:PySem.W.findIn K (.ref C) "__setattr__" = some (some (.builtin "object.__setattr__")))(o:PySem.W.plainOver K C=true)(p:PySem.W.takerIn K C name=some none)(q:PySem.W.hasDictIn K C=true)
 (t:PySem.Within mA m)(u:m.length<=sizeLine)
 (h:∀f,ObjM f x dx C (λy=>if y=name then some v else mA y)->Heap.SameBut dx s.heap f->Q () {s with heap:=f,toks:=s.toks+2}):
  wpAny (model prog w) A (setAttr (.ref x) name v) Q E s:=by
 obtain⟨G,J,H⟩:=I.look
 refine PySem.W.set_plain X J n (PySem.W.osa_open (s:={s with toks:=s.toks+1}) (r:=none) X J o p λb=>?_);obtain⟨L,z,g⟩:=PySem.W.any_some q
 have B:s.heap.get? x=some ⟨.ref C,some dx,.plain,#[]⟩:=I.obj;refine Zd (Zu (Zd (Zd (wpAny_loadPart B (Zd (PySem.W.Looks.here (s:={s with toks:=s.toks+1}) (PySem.W.looks_clsIn X z) ?_))))));rw[g];refine Zu (a:=some dx) (Zd (Zu (Zd ?_)));refine wpAny_nsSet1 (s:={s with toks:=s.toks+1}) I.ns λf d e=>?_;obtain⟨M,D,F,i,j,l⟩:=d.count (PySem.Within.cons name v t)
 refine Zd (wpAny_lookBehind i (by rw[j];exact pastItsLine_dict (Y9 l (by rw[Zw];omega))) ?_);exact Zu (h _ ⟨(e.2 _ (Wz I.ne)).trans I.obj,d,I.ne⟩ e)
def ri{R:Result->Shared->Prop}{e:List Value}{i:List (Str×Value)}(X:K.In s.heap)(j:PySem.W.makesIn K C=true)
 (l:PySem.W.findIn K (.ref C) "__init__" = some (some (.ref f)))(m:PySem.W.typeIn K (.ref f)=some (.type "function"))
 (h:codeAny (model prog w) (A.under (.builtin "type.__call__" ⟨.ref C::e,i⟩)) (.call (.ref f) ⟨.ref (s.heap.objs.size+1)::e,i⟩) (PySem.W.InitBack (s.heap.objs.size+1) R)
   {s with heap:=(s.heap.push PySem.W.emptyDict).push (PySem.W.instObj C s.heap.objs.size)}):
  codeAny (model prog w) A (.call (.ref C) ⟨e,i⟩) R s:=by
 obtain⟨n,g,d,t,os⟩:=s
 exact PySem.W.make_core (PySem.W.makes_of X j) (PySem.W.looks_findIn X l) (λself=>PySem.W.bind_fn X self m) (.inl rfl) h
end
def putF(f:Str)(v:V):List (Str×V)->List (Str×V)
 |[]=>[(f,v)]
 |(g,x)::r=>if g=f then(g,v)::r else(g,x)::putF f v r
theorem mQ(f g:Str)(v:V):∀j:List (Str×V),(putF f v j).lookup g=if g=f then some v else j.lookup g
 |[]=>by
  show List.lookup g [(f,v)]=_;by_cases h:g=f
  ·have d:(g == f)=true:=beq_iff_eq.mpr h;simp only[List.lookup,d,if_pos h]
  ·have d:(g == f)=false:=beq_eq_false_iff_ne.mpr h;simp only[List.lookup,d,if_neg h]
 |(k,x)::r=>by
  have l:=mQ f g v r;rw[show putF f v ((k,x)::r)=(if k=f then(k,v)::r else(k,x)::putF f v r) from rfl];by_cases i:k=f
  ·rw[if_pos i];by_cases h:g=k
   ·have d:(g == k)=true:=beq_iff_eq.mpr h;simp only[List.lookup,d,if_pos (h.trans i)]
   ·have d:(g == k)=false:=beq_eq_false_iff_ne.mpr h;simp only[List.lookup,d,if_neg (λe:g=f=>h (e.trans i.symm))]
  ·rw[if_neg i];by_cases h:g=k
   ·have d:(g == k)=true:=beq_iff_eq.mpr h;simp only[List.lookup,d,if_neg (λe:g=f=>i (h.symm.trans e))]
   ·have d:(g == k)=false:=beq_eq_false_iff_ne.mpr h;simp only[List.lookup,d];exact l
theorem ki(f:Str)(v:V):∀d:List (Str×V),f∈(putF f v d).map (·.1)/\∀g,g∈d.map (·.1)->g∈(putF f v d).map (·.1)
 |[]=>⟨by simp[putF],λg h=>by simp at h⟩
 |(k,x)::r=>by
  obtain⟨j,l⟩:=ki f v r
  rw[show putF f v ((k,x)::r)=(if k=f then(k,v)::r else(k,x)::putF f v r) from rfl];by_cases i:k=f
  ·rw[if_pos i];subst i;exact⟨by simp,λg h=>by simpa using h⟩
  ·rw[if_neg i];refine⟨?_,λg h=>?_⟩
   ·rw[Zy];exact Yv _ j
   ·rw[Zy] at h |-;rcases Zf.mp h with e|e
    ·exact Zf.mpr (.inl e)
    ·exact Yv _ (l g e)
theorem fS(f:Str)(v:V):∀d:List (Str×V),(putF f v d).length<=d.length+1
 |[]=>by simp[putF]
 |(k,x)::r=>by
  have g:=fS f v r;rw[show putF f v ((k,x)::r)=(if k=f then(k,v)::r else(k,x)::putF f v r) from rfl];by_cases e:k=f
  ·rw[if_pos e,Zw,Zw];omega
  ·rw[if_neg e,Zw,Zw];omega
def RelO.some_of{v:V}{o:Option Value}(r:RelO (some v) o):∃u,o=some u/\RelV v u:=by
 cases o with
 |none=>exact(show False from r).elim
 |some u=>exact⟨u,rfl,r⟩
def rj{v:V}{u:Value}(r:RelV v u):PySem.W.handedIn u=true:=by
 cases v with
 |non=>cases(show u=Value.none from r);rfl
 |bl b=>cases(show u=Value.bool b from r);rfl
 |int i=>obtain⟨t,e⟩:=(show ∃t,u=Value.int i t from r);cases e;rfl
 |str x=>obtain⟨t,e⟩:=(show ∃t,u=Value.str x t from r);cases e;rfl
 |byt b=>obtain⟨t,e⟩:=(show ∃t,u=Value.bytes b t from r);cases e;rfl
 |flt b=>obtain⟨t,e⟩:=(show ∃t,u=Value.float b t from r);cases e;rfl
 |ref a=>cases(show u=Value.ref a from r);rfl
 |ty n=>cases(show u=Value.type n from r);rfl
section
variable{P:Program}{w:World}{H H':Hp}{h h':Heap}{a C dx:Addr}{fs fs':List (Str×V)}
def mR(i:HOk P w H h)(e:H a=some (.ins C dx fs)):∃g,ObjM h a dx C g/\(∀f,RelO (fs.lookup f) (g f))/\PySem.Within g (fs.map (·.1))/\fs.length<=1000/\H dx=some (.own a):=by
 obtain⟨d,z,j,l,g,n,r,q⟩:=(show ObjOk P w H h a (.ins C dx fs) from i a _ e)
 exact⟨g,⟨l,n,j⟩,r,q,z,d⟩
end
structure Cls(K:vE)(C:Addr):Prop where
 pg:PySem.W.plainGet K C Str.empty=true
 hd:PySem.W.hasDictIn K C=true
 po:PySem.W.plainOver K C=true
 sa:PySem.W.findIn K (.ref C) "__setattr__" = some (some (.builtin "object.__setattr__"))
def Cls.get{K:vE}{C:Addr}(c:Cls K C)(f:Str):PySem.W.plainGet K C f=true:=c.pg
def NoAttr(K:vE)(C:Addr)(f:Str):Prop:=PySem.W.findIn K (.ref C) f=some none
def NoAttr.taker{K:vE}{C:Addr}{f:Str}(n:NoAttr K C f):PySem.W.takerIn K C f=some none:=by
 unfold PySem.W.takerIn;rw[show PySem.W.findIn K (.ref C) f=some none from n];rfl
section
variable{X:Cx}{pins:List (Addr×Obj)}{σ:St}{H:Hp}{s:Shared}{a C dx:Addr}{fs:List (Str×V)}{f:Str}{v:V}{A:Around}{E:Value->Shared->Prop}
def rk{b:Bool}{Q:Value->Shared->Prop}(I:Inv X pins σ H s)(e:H a=some (.ins C dx fs))(c:Cls X.K C)(n:NoAttr X.K C f)(l:fs.lookup f=some v)
 (h:∀u d,Inv X pins σ H d->RelV v u->Q u d):wpAny (model X.prog X.w) A (getAttr (.ref a) f b) Q E s:=by
 obtain⟨i,O,r,_,_,_⟩:=mR I.hok e
 obtain⟨u,j,g⟩:=RelO.some_of (v:=v) (o:=i f) (by rw[<-l];exact r f)
 exact rd I.kIn O (c.get f) c.hd n j (rj g) (h u _ (I.tok _) g)
def rl{y:V}{u:Value}{Q:Unit->Shared->Prop}(I:Inv X pins σ H s)(e:H a=some (.ins C dx fs))(c:Cls X.K C)(n:NoAttr X.K C f)(L:fs.length<1000)(p:RelV y u)
 (h:∀i,Inv X pins σ (upd H a (.ins C dx (putF f y fs))) i->Q () i):wpAny (model X.prog X.w) A (setAttr (.ref a) f u) Q E s:=by
 obtain⟨j,O,r,l,_,m⟩:=mR I.hok e
 have t:(fs.map (·.1)).length<=sizeLine:=by rw[Zc,sizeLine_eq];omega
 refine rh I.kIn O c.sa c.po n.taker c.hd l t λv d B=>h _ ?_
 have D:∃o,v.get? dx=some o:=let ⟨o,_,_,F,_⟩:=d.ns;⟨o,F⟩;refine I.write (x:=a) (e:=dx) (by rw[e];exact True.intro) (.inr m) (λb q G z=>(B.2 b G).trans z) D ?_;refine⟨by rw[Bg O.ne];exact m,?_,O.ne,d.obj,_,d.ns,λg=>?_,λg J=>?_⟩
 ·have:=fS f y fs;omega
 ·show RelO ((putF f y fs).lookup g) (if g=f then some u else j g);rw[mQ];by_cases q:g=f
  ·rw[if_pos q,if_pos q];exact p
  ·rw[if_neg q,if_neg q];exact r g
 ·by_cases q:g=f
  ·rw[q];exact(ki f y fs).1
  ·refine(ki f y fs).2 g (l g λz=>J ?_);show(if g=f then some u else j g)=none;rw[if_neg q];exact z
def Inv.made(I:Inv X pins σ H s):Inv X pins σ (upd (upd H s.heap.objs.size (.own (s.heap.objs.size+1))) (s.heap.objs.size+1) (.ins C s.heap.objs.size []))
  {s with heap:=(s.heap.push PySem.W.emptyDict).push (PySem.W.instObj C s.heap.objs.size)}:=by
 have d:(s.heap.push PySem.W.emptyDict).get? s.heap.objs.size=some PySem.W.emptyDict:=Z4 s.heap rfl;have g:((s.heap.push PySem.W.emptyDict).push (PySem.W.instObj C s.heap.objs.size)).get? (s.heap.objs.size+1)=some (PySem.W.instObj C s.heap.objs.size):=by
  have:=Z4 (s.heap.push PySem.W.emptyDict) (o:=PySem.W.instObj C s.heap.objs.size) rfl
  rwa [Ql] at this
 have h:(s.heap.push PySem.W.emptyDict).Ns s.heap.objs.size (λ_=>none):=⟨PySem.W.emptyDict,#[],_,d,rfl,(λe i=>absurd i vC),λ_=>rfl⟩;have j:=I.laid (a:=s.heap.objs.size) (o:=.own (s.heap.objs.size+1)) (h':=s.heap.push PySem.W.emptyDict) (t':=s.toks) (λb u q=>Ze _ q) (Zn _) ⟨_,d⟩;refine j.laid (a:=s.heap.objs.size+1) (o:=.ins C s.heap.objs.size []) (t':=s.toks) (λb u q=>Ze _ q) (V0 (Ql _ _)) ?_;have f:s.heap.objs.size≠s.heap.objs.size+1:=Yj (Ww _);refine⟨by rw[Bg f,Bh],Y8 _,f,g,λ_=>none,(Heap.Ns1.of_empty h).at λo q=>Ze _ q,λ_=>True.intro,λy l=>absurd rfl l⟩
def rm{d:Program}{w:World}{env:Env}{e:Expr}{f:Str}{pos:Pos}{s:Shared}{Q:Value->Shared->Prop}(i:attributeBase e f env (eval e env)=eval e env)
 (h:wpAny (model d w) A (eval e env) (λo g=>wpAny (model d w) A (getAttr o f true) Q E g) E s):wpAny (model d w) A (eval (.Attribute e f pos) env) Q E s:=
 Attribute_any_ h (by rw[arm_eval_Attribute,i])
end
def LM(K:vE)(g:TE)(f:Str):TE:=λh H Q=>g h H λx d=>∃a C i e v,x=.ref a/\d a=some (.ins C i e)/\Cls K C/\NoAttr K C f/\e.lookup f=some v/\Q v d
def LS(K:vE)(i j:TE)(f:Str):TS:=λD d H=>j d H λy l=>i d l λx g=>∃a C h e,x=.ref a/\g a=some (.ins C h e)/\Cls K C/\NoAttr K C f/\e.length<1000 /\
 D.nx d (upd g a (.ins C h (putF f y e)))
section
variable{X:Cx}{o e value:Expr}{f:Str}{pos pos' tpos:Pos}{ta tv:TE}
def GJ(g:PE X e ta)(i:attributeBase e f X.env (eval e X.env)=eval e X.env):PE X (.Attribute e f pos) (LM X.K ta f):=by
 intro d s j H Q I h;refine rm i (CH (g d s j H _ I h) λu z ⟨x,m,o,p,a,C,A,B,v,ex,r,c,n,l,q⟩=>?_);subst ex;obtain rfl:u=Value.ref a:=p;exact rk o r c n l λD E t w=>⟨v,m,t,w,q⟩
def fT(g:PE X o ta)(i:PE X value tv)(j:swapsWith value (some (.Attribute o f pos')) pos.line X.env=pure false):PS X (.Assign [.Attribute o f pos'] value pos) (LS X.K ta tv f):=by
 intro d s e H D I h;refine plainObj_wpAny_Assign_Attribute (CH (i d s e H _ I h) λu m ⟨y,p,r,t,q⟩=>CH (g d m e p _ r q) λv F ⟨x,G,w,z,a,C,J,L,ex,A,c,n,l,B⟩=>?_) j;subst ex;obtain rfl:v=Value.ref a:=z;exact rl w A c n l t λM E=>⟨e,_,E,B⟩
end
section
variable{X:Cx}{pins:List (Addr×Obj)}{σ:St}{H:Hp}{s:Shared}{A:Around}{E:Value->Shared->Prop}{Q:Value->Shared->Prop}{c:Value}{b:Bool}
end
structure Room(k:Nat)(A:Around):Prop where
 hd:A.handled=none
 dp:A.depth+3*k+5<recursionLimit
 un:A.units+16*k+200<cLine
def Room.mono{j k:Nat}{A:Around}(r:Room k A)(h:j<=k):Room j A:=⟨r.hd,by have:=r.dp;omega,by have:=r.un;omega⟩
theorem Room.deeper{k:Nat}{A:Around}(r:Room (k+1) A)(env:Env):Room k (A.deeper env):=
 ⟨r.hd,by have:=r.dp;show A.depth+1+3*k+5<_;omega,by have:=r.un;show A.units+3+16*k+200<_;omega⟩
def rn{A:Around}{C:Addr}{us:List Value}{d:List (Str×Value)}:(A.under (.builtin "type.__call__" ⟨.ref C::us,d⟩)).depth=A.depth+1:=by
 first|rfl|simp[Around.under,Code.weight,Code.isCreation,Code.isGuard,Code.isCaller,Code.frames,Code.isFrame,guardIds]
def ro{A:Around}{C:Addr}{us:List Value}{d:List (Str×Value)}:(A.under (.builtin "type.__call__" ⟨.ref C::us,d⟩)).units=A.units+1:=by
 first|rfl|simp[Around.under,Code.cUnits,Code.frames,Code.isFrame]
def Room.make{k:Nat}{A:Around}(r:Room (k+1) A)(C:Addr)(us:List Value)(d:List (Str×Value)):Room k (A.under (.builtin "type.__call__" ⟨.ref C::us,d⟩)):=
 ⟨r.hd,by have:=r.dp;rw[rn];omega,by have:=r.un;rw[ro];omega⟩
theorem Room.depth{k:Nat}{A:Around}(r:Room k A):A.depth<recursionLimit:=by have:=r.dp;omega
theorem Room.units{k:Nat}{A:Around}(r:Room k A):A.units+64<cLine:=by have:=r.un;omega
def D1:TA:=λ_ H Q=>Q [] H
def cy(e:TE)(f:TA):TA:=λd H Q=>e d H λx g=>f d g λh i=>Q (x::h) i
section
variable{X:Cx}{e:Expr}{es:List Expr}{te:TE}{t:TA}{pos:Pos}
def cJ:PA X [] D1:=λ_ _ _ _ H Q I h=>Gj ⟨[],H,I,.nil,h⟩
def cc(g:PE X e te)(i:PA X es t)(j:starEach (e::es) X.env=(false,eval e X.env)::starEach es X.env:=by rfl):PA X (e::es) (cy te t):=by
 intro pos d s f H Q I h;rw[j];show wpAny _ _ (spliced ((false,eval e X.env)::backTo pos (starEach es X.env))) _ _ s;refine V8 (CH (g d s f H _ I h) λu l ⟨x,m,n,o,p⟩=>?_);exact CH (i pos d l f m _ n p) λA B ⟨q,r,v,w,z⟩=>⟨x::q,r,v,.cons o w,z⟩
def LC(t:TA):TE:=λf H Q=>t f H λd e=>d.length<=sizeLine/\∀p,e p=none->Q (.ref p) (upd e p (.tup d))
def LJ(t:TA):TE:=λf H Q=>t f H λd e=>d.length<=sizeLine/\∀p,e p=none->Q (.ref p) (upd e p (.lst d))
def GF{j}(h:PA X es t):PE X (.Tuple es j pos) (LC t):=by
 intro d s l H Q I m;refine wpAny_Tuple_spliced (CH (h pos d s l H _ I m) λn f ⟨o,g,i,r,z,q⟩=>⟨by rw[<-r.length];exact z,?_⟩);have p:g f.heap.objs.size=none:=i.hok.fresh (Zn _);refine⟨.ref f.heap.objs.size,upd g f.heap.objs.size (.tup o),i.laid (t':=f.toks) (λb u e=>Ze _ e) (Zn _) ?_,rfl,q _ p⟩
 exact⟨z,n,r,⟨_,Z4 _ rfl,rfl,_,rfl⟩⟩
def kj(h:PA X es t):PE X (.List es pos) (LJ t):=by
 intro d s j H Q I l;refine wpAny_List_spliced (CH (h pos d s j H _ I l) λm f ⟨n,g,i,r,z,q⟩=>⟨by rw[<-r.length];exact z,?_⟩);have o:g f.heap.objs.size=none:=i.hok.fresh (Zn _);refine⟨.ref f.heap.objs.size,upd g f.heap.objs.size (.lst n),i.laid (t':=f.toks) (λb u e=>Ze _ e) (Zn _) ?_,rfl,q _ o⟩
 exact⟨z,m,0,r,Z4 _ rfl⟩
end
abbrev Sp:=List V->Hp->VK->XK->Prop
abbrev DR:=List Env->Hp->Shared->XK->Value->Shared->Prop
structure Env0(P:Program)(w:World)(K:vE)(mg:Str->Option Value)(base:Heap)(A:Around)(outer:List Env)(s:Shared)(H:Hp):Prop where
 frames:A.frames=some outer
 mod:Mod K mg base
 bs:∀b o,base.get? b=some o->s.heap.get? b=some o/\H b=none
 bsz:base.objs.size<=s.heap.objs.size
 funs:s.heap.FunFrames base outer
 frf:∀b∈D8 outer,H b=none
 hok:HOk P w H s.heap
 bare:AllBare s.gens
def CE(outer:List Env)(P:Program)(w:World)(H:Hp)(s:Shared)(Q:VK)(u:Value)(d:Shared):Prop:=
 ∃v e,d.os=s.os/\AllBare d.gens/\Un (D8 outer) [] H e s.heap d.heap/\HOk P w e d.heap/\RelV v u/\Q v e
def CR(f:DR)(outer:List Env)(P:Program)(w:World)(H:Hp)(s:Shared)(Q:VK)(E:XK)(r:Result)(d:Shared):Prop:=
 match r with
 |.ok (.ret u)=>CE outer P w H s Q u d
 |.ok _=>False
 |.error e=>f outer H s E e d
structure FnOk(P:Program)(w:World)(K:vE)(mg:Str->Option Value)(base:Heap)(CX:DR)(k:Nat)(f:Addr)(fd:FuncData)(ps:List Str)(sp:Sp):Prop where
 len:∀vs H Q E,sp vs H Q E->vs.length=ps.length
 run:∀(A:Around) (outer:List Env) (s:Shared) (H:Hp) (args:Args) (us:List Value) (vs:List V) (Q:VK) (E:XK),Room k A->Env0 P w K mg base A outer s H->BindsTo s fd args (ps.zip us)->Vals vs us->sp vs H Q E ->
  codeAny (model P w) A (.call (.ref f) args) (CR CX outer P w H s Q E) s
theorem FnOk.mono{P:Program}{w:World}{K:vE}{mg:Str->Option Value}{base:Heap}{CX:DR}{j k:Nat}{f:Addr}{fd:FuncData}{ps:List Str}{sp:Sp}(F:FnOk P w K mg base CX j f fd ps sp)(h:j<=k):
  FnOk P w K mg base CX k f fd ps sp:=⟨F.len,λA outer s H args us vs Q E d=>F.run A outer s H args us vs Q E (d.mono h)⟩
def FnOk.imp{P:Program}{w:World}{K:vE}{mg:Str->Option Value}{base:Heap}{CX:DR}{k:Nat}{f:Addr}{fd:FuncData}{ps:List Str}{sp d:Sp}(F:FnOk P w K mg base CX k f fd ps sp)
 (h:∀vs H Q E,d vs H Q E->sp vs H Q E):FnOk P w K mg base CX k f fd ps d:=
 ⟨λvs H Q E q=>F.len vs H Q E (h _ _ _ _ q),λA outer s H args us vs Q E e g i j l=>F.run A outer s H args us vs Q E e g i j (h _ _ _ _ l)⟩
def Env0.make{P:Program}{w:World}{K:vE}{mg:Str->Option Value}{base:Heap}{A:Around}{outer:List Env}{s:Shared}{H:Hp}(e:Env0 P w K mg base A outer s H)(C:Addr)(us:List Value)(d:List (Str×Value)):
  Env0 P w K mg base (A.under (.builtin "type.__call__" ⟨.ref C::us,d⟩)) outer s H:=⟨by first|exact e.frames|(simpa[Around.under,Code.envs,Code.isFrame,pushEnvs] using e.frames),e.mod,e.bs,e.bsz,e.funs,e.frf,e.hok,e.bare⟩
section
variable{X:Cx}{pins:List (Addr×Obj)}{σ:St}{H:Hp}{s s':Shared}
def Inv.env0(I:Inv X pins σ H s):Env0 X.prog X.w X.K X.mg X.base X.A X.stack s H:=
 ⟨I.ok.frames,I.ok.mod,I.bs,Y9 I.ok.bsz I.sz,I.stack,I.stkFree,I.hok,I.bare⟩
def Inv.after{Q:VK}{u:Value}(I:Inv X pins σ H s)(h:CE X.stack X.prog X.w H s Q u s'):EP X pins σ Q u s':=by
 obtain⟨v,f,os,bare,un,hok,r,q⟩:=h
 obtain⟨i,g,d,t,e⟩:=s'
 obtain rfl:e=s.os:=os;exact⟨v,f,I.call (h':=i) (g':=g) (d':=d) (t':=t) (ch:=[]) un hok bare (λb z=>absurd z vC),r,q⟩
end
def dQ(sp:Sp)(d:List V)(E:XK)(t:TA):TE:=λe H Q=>t e H λf g=>sp (f++d) g Q E
def EU(C:Addr)(sp:Sp)(e:List V)(E:XK)(t:TA):TE:=λg H Q=>t g H λh f=>∀x d,f x=none->f d=none->d≠x ->
 sp (.ref x::(h++e)) (upd (upd f d (.own x)) x (.ins C d [])) (λv i=>v=.non/\Q (.ref x) i) E
def Binds(K:vE)(g:FuncData)(e:List Str)(f:List Value):Prop:=
 ∀(s:Shared) (d:List Value),K.In s.heap->(d++f).length=e.length->BindsTo s g ⟨d,[]⟩ (e.zip (d++f))
def Binds.all{K:vE}{e:FuncData}{d:List Str}(h:∀us:List Value,us.length=d.length->bindArgs e ⟨us,[]⟩=pure (d.zip us)):Binds K e d []:=λs us _ f=>by
 rw[Kc] at f |-;exact .of_eq (h us f)
def fU(g:DR)(X:Cx)(E:XK):Prop:=∀(d:List (Addr×Obj)) (h:St) (H:Hp) (s:Shared) (e:Value) (f:Shared),Inv X d h H s->g X.stack H s E e f->X.xe e f
section
variable{X:Cx}{CX:DR}{k:Nat}{f C:Addr}{fd:FuncData}{ps:List Str}{sp:Sp}{dvs:List V}{ds:List Value}{E:XK}{x m:Str}{p pos apos:Pos}{e o:Expr}{es:List Expr}{ta:TE}{t:TA}
def FR{d:List (Addr×Obj)}{j:St}{H:Hp}{s:Shared}{Q:VK}{us:List Value}{i:List V}(F:FnOk X.prog X.w X.K X.mg X.base CX k f fd ps sp)(m:Room k X.A)(n:Binds X.K fd ps ds)(o:Vals dvs ds)(p:fU CX X E)
 (I:Inv X d j H s)(r:Vals i us)(h:sp (i++dvs) H Q E):wpAny (model X.prog X.w) X.A (call (.ref f) us) (EP X d j Q) X.xe s:=by
 have l:Vals (i++dvs) (us++ds):=r.append o;have q:(us++ds).length=ps.length:=by rw[<-l.length];exact F.len _ _ _ _ h
 refine wpAny_call (Vg (F.run X.A X.stack s H ⟨us,[]⟩ (us++ds) (i++dvs) Q E m I.env0 (n s us I.kIn q) l h) λr t g=>?_);cases r with
 |error e=>exact p d j H s e t I g
 |ok v=>
  cases v with
  |ret u=>exact I.after g
  |next=>exact False.elim g
  |brk=>exact False.elim g
  |cont=>exact False.elim g
def kk(F:FnOk X.prog X.w X.K X.mg X.base CX k f fd ps sp)(l:Room k X.A)(m:Gl X x)(n:X.mg x=some (.ref f))(o:PySem.W.keepIn X.K (.ref f)=true)(u:Binds X.K fd ps ds)(v:Vals dvs ds)(z:fU CX X E)
 (B:PA X (e::es) t)(g:(x == ("__debug__" : Str))=false:=by decide)(C:starEach (e::es) X.env=(false,eval e X.env)::starEach es X.env:=by rfl)(i:(backTo pos (starEach es X.env)).any (·.1)=false:=by rfl):
  PE X (.Call (.Name x p) (e::es) [] pos) (dQ sp dvs E t):=by
 intro d s D H Q I h;refine Qu (mG I m n ?_ g);refine Vs (h₀:=X.base) I.ok.mod.kin o (CH (B pos d s D H _ I h) λG J ⟨L,M,j,r,q⟩=>⟨j.kIn,?_⟩) C i;exact FR F l u v z j r q
structure Mk(K:vE)(C f:Addr):Prop where
 makes:PySem.W.makesIn K C=true
 init:PySem.W.findIn K (.ref C) "__init__" = some (some (.ref f))
 fn:PySem.W.isFn K (.ref f)=true
 kp:PySem.W.keepIn K (.ref C)=true
def rp{d:List (Addr×Obj)}{l:St}{H:Hp}{s:Shared}{Q:VK}{us:List Value}{m:List V}(M:Mk X.K C f)(F:FnOk X.prog X.w X.K X.mg X.base CX k f fd ps sp)(p:Room (k+1) X.A)(q:Binds X.K fd ps ds)(t:Vals dvs ds)
 (z:fU CX X E)(I:Inv X d l H s)(r:Vals m us)
 (h:∀x i,H x=none->H i=none->i≠x->sp (.ref x::(m++dvs)) (upd (upd H i (.own x)) x (.ins C i [])) (λv B=>v=.non/\Q (.ref x) B) E):
  wpAny (model X.prog X.w) X.A (call (.ref C) us) (EP X d l Q) X.xe s:=by
 have n:=h (s.heap.objs.size+1) s.heap.objs.size (I.hok.fresh (Uc _)) (I.hok.fresh (Zn _)) (Yj (Ww _));have j:=Inv.made (C:=C) I;have o:Vals (V.ref (s.heap.objs.size+1)::(m++dvs)) (Value.ref (s.heap.objs.size+1)::(us++ds)):=.cons rfl (r.append t);have D:(Value.ref (s.heap.objs.size+1)::us++ds).length=ps.length:=by
  have e:=o.length;rw[F.len _ _ _ _ n] at e;exact e.symm
 refine wpAny_call (ri (f:=f) I.kIn M.makes M.init (beq_iff_eq.mp M.fn) (Vg (F.run _ X.stack _ _ ⟨Value.ref (s.heap.objs.size+1)::us,[]⟩ (Value.ref (s.heap.objs.size+1)::(us++ds)) _ _ E (p.make C us [])
  (j.env0.make C us []) (q _ (Value.ref (s.heap.objs.size+1)::us) j.kIn D) o n) λr G g=>?_))
 cases r with
 |error e=>exact z d l _ _ e G j g
 |ok J=>
  cases J with
  |ret u=>
   obtain⟨v,L,N,O,ev,P⟩:=j.after g
   subst ev;exact⟨O,⟨V.ref (s.heap.objs.size+1),L,N,rfl,P⟩⟩
  |next=>exact False.elim g
  |brk=>exact False.elim g
  |cont=>exact False.elim g
def rq(M:Mk X.K C f)(F:FnOk X.prog X.w X.K X.mg X.base CX k f fd ps sp)(l:Room (k+1) X.A)(m:Gl X x)(n:X.mg x=some (.ref C))(o:Binds X.K fd ps ds)(u:Vals dvs ds)(v:fU CX X E)
 (z:PA X (e::es) t)(g:(x == ("__debug__" : Str))=false:=by decide)(B:starEach (e::es) X.env=(false,eval e X.env)::starEach es X.env:=by rfl)(i:(backTo pos (starEach es X.env)).any (·.1)=false:=by rfl):
  PE X (.Call (.Name x p) (e::es) [] pos) (EU C sp dvs E t):=by
 intro d s D H Q I h;refine Qu (mG I m n ?_ g);refine Vs (h₀:=X.base) I.ok.mod.kin M.kp (CH (z pos d s D H _ I h) λG J ⟨L,N,j,r,q⟩=>⟨j.kIn,?_⟩) B i;exact rp M F l o u v j r q
end
section
variable{X:Cx}{CX:DR}{k:Nat}{f C:Addr}{fd:FuncData}{ps ks:List Str}{sp:Sp}{E:XK}{x m:Str}{p pos apos kpos:Pos}{e o:Expr}{es:List Expr}{kws:List Keyword}{te ta:TE}{t tk:TA}{nm:Option Str}
variable{g:List Value->List Value->List Value}{gV:List V->List V->List V}
end
structure FnScope(N P:List Str)(sc:Scope):Prop where
 kind:sc.kind=.function
 co:sc.isCoroutine=false
 gen:sc.isGenerator=false
 nd:N.Nodup
 pre:N.take P.length=P
 par:∀x∈P,sc.names.lookup x=some .local\/sc.names.lookup x=some .cell
 nofree:∀y∈sc.names,y.2 ≠ .free
theorem mS{e:Str->Option NameKind}{x:Str}:∀{d:List (Str×Value)}{m:Str->Option Value},(∀v,(x,v)∉d)->bindL e d m x=m x
 |[],_,_=>rfl
 |(n,v)::r,m,h=>by
  unfold bindL;rw[mS λw f=>h w (Yv _ f)];split
  ·have:x≠n:=by rintro rfl;exact h v Wu
   simp[this]
  ·rfl
theorem mT{e:Str->Option NameKind}{x:Str}:∀{d:List (Str×Value)}{m:Str->Option Value},(∀v,(x,v)∉d)->bindC e d m x=m x
 |[],_,_=>rfl
 |(n,v)::r,m,h=>by
  unfold bindC;rw[mT λw f=>h w (Yv _ f)];split
  ·rfl
  ·have:x≠n:=by rintro rfl;exact h v Wu
   simp[this]
theorem mU{d:Str->Option NameKind}{x:Str}{v:Value}:∀{P:List Str}{e:List Value}{i:Nat}{m:Str->Option Value},P.Nodup->P[i]? = some x->e[i]? = some v->d x=some .local ->
  bindL d (P.zip e) m x=some v
 |[],_,_,_,_,h,_,_=>by simp at h
 |_::_,[],_,_,_,_,h,_=>by simp at h
 |p::P,w::e,0,m,j,f,g,l=>by
  simp at f g;subst f;subst g
  show bindL d ((p,w)::P.zip e) m p=_;unfold bindL;rw[mS λv n=>(Wo.mp j).1 (U3 n).1,if_pos l];simp
 |p::P,w::e,i+1,m,j,f,g,l=>by
  show bindL d ((p,w)::P.zip e) m x=_;unfold bindL;exact mU (i:=i) (Wo.mp j).2 (by simpa using f) (by simpa using g) l
theorem mV{d:Str->Option NameKind}{x:Str}{v:Value}:∀{P:List Str}{e:List Value}{i:Nat}{m:Str->Option Value},P.Nodup->P[i]? = some x->e[i]? = some v->d x≠some .local ->
  bindC d (P.zip e) m x=some v
 |[],_,_,_,_,h,_,_=>by simp at h
 |_::_,[],_,_,_,_,h,_=>by simp at h
 |p::P,w::e,0,m,j,f,g,l=>by
  simp at f g;subst f;subst g
  show bindC d ((p,w)::P.zip e) m p=_;unfold bindC;rw[mT λv n=>(Wo.mp j).1 (U3 n).1,if_neg l];simp
 |p::P,w::e,i+1,m,j,f,g,l=>by
  show bindC d ((p,w)::P.zip e) m x=_;unfold bindC;exact mV (i:=i) (Wo.mp j).2 (by simpa using f) (by simpa using g) l
def start(N:List Str)(d:List V):St:=d.map some++List.replicate (N.length-d.length) none
def Dd(i:DR)(P:Program)(w:World)(K:vE)(mg:Str->Option Value)(base:Heap)(N:List Str)(d:Str)(scope:Scope)(f:Addr)(h:Value)(A:Around)(outer:List Env)(s:Shared)(H:Hp)(E:XK):Cx where
 prog:=P
 w:=w
 K:=K
 mg:=mg
 base:=base
 A:=A.deeper (envOfC d scope s.heap.objs.size f h)
 N:=N
 s₀:=s
 H₀:=H
 env:=envOfC d scope s.heap.objs.size f h
 outer:=outer
 stack:=envOfC d scope s.heap.objs.size f h::outer
 ex:=[]
 calm:=true
 fn:=λ_=>true
 pn:=[]
 xe:=λe j=>wpAny (model P w) (A.deeper (envOfC d scope s.heap.objs.size f h)) (leaving (envOfC d scope s.heap.objs.size f h) e) (λ_ g=>i outer H s E e g) (λl g=>i outer H s E l g) j
def mW{sc:Scope}{n:Nat}{x:Str}(h:sc.names.lookup x=some .cell):∃c,(cellsFrom n sc.names []).lookup x=some c:=by
 have q:=Vh sc.names n [] (.inl h);exact Va.mp q
def rr{L:DR}{P:Program}{w:World}{K:vE}{J:Str->Option Value}{j:Heap}{N m:List Str}{d:Str}{scope:Scope}{f:Addr}{F:Value}{A:Around}{outer:List Env}{s M:Shared}{H:Hp}{E:XK}{us:List Value}{o:List V}
 (S:FnScope N m scope)(R:A.handled=none)(l:Env0 P w K J j A outer s H)(Y:o.length=m.length)(r:Vals o us)
 (x:InCallC s s.heap.objs.size (bindL (envOfC d scope s.heap.objs.size f F).kindOf (m.zip us) λ_=>none) (cellsFrom (s.heap.objs.size+1) scope.names []) (bindC (envOfC d scope s.heap.objs.size f F).kindOf (m.zip us) λ_=>none) M):
  Inv (Dd L P w K J j N d scope f F A outer s H E) [] (start N o) H M:=by
 have T:m.length<=N.length:=by have:=congrArg List.length S.pre;rw[Wb] at this;omega
 obtain⟨G,Z,rfl,O⟩:=x.done
 have t:∀b:Addr,b∉(Dd L P w K J j N d scope f F A outer s H E).ex:=λb z=>absurd (show b∈([]:List Addr) from z) vC
 refine⟨⟨l.mod,S.kind,rfl,rfl,Zn _,λy z c G g=>?_,λy B=>?_,λy c _ h=>?_,λ_=>R,Around.frames_deeper l.frames,.inr ⟨rfl,rfl⟩,λb z=>absurd z (t b),l.bs,l.bsz,λb _ _=>t b,λb z=>absurd z (t b),l.funs,l.frf⟩,
  rfl,l.bare,Un.kept O,⟨_,x.toInCall.ns,λi y v G g h3=>?_⟩,λy c h=>⟨_,x.cell y c h⟩,l.hok.fresh (Zn _),λy c h=>?_,λp C=>absurd (show p∈([]:List (Addr×Obj)) from C) vC,l.hok.kept O,?_⟩
 ·exact name_of_addr x.apart (Q6 G) (Q6 g)
 ·have B:scope.names.lookup y=some .cell\/scope.names.lookup y=some .free:=B;rcases B with B|B
  ·exact mW B
  ·exact absurd rfl (S.nofree _ (Q6 B))
 ·exact Ut (x.above y c (Q6 h))
 ·have I:i<o.length:=by
   unfold start at g;by_cases I:i<o.length
   ·exact I
   ·rw[Ye (by simpa using I)] at g;rw[Wf] at g;split at g<;>cases g
  have U:o[i]? = some v:=by
   unfold start at g;rw[Yc (by simpa using I),Zm] at g;cases e:o[i]? with
   |none=>rw[e] at g;cases g
   |some a=>rw[e] at g;cases g;rfl
  obtain⟨u,Q,X⟩:=r.get U
  have C:m[i]? = some y:=by
   rw[<-S.pre,Jh vB];exact G
  have D:m.Nodup:=by rw[<-S.pre];exact S.nd.sublist (List.take_sublist _ _)
  refine⟨u,X,?_⟩
  rcases S.par y (Yh C) with k|k
  ·exact .inl ⟨k,mU D C Q k⟩
  ·obtain⟨c,e⟩:=mW (n:=s.heap.objs.size+1) k
   refine .inr ⟨.inl k,c,e,?_⟩;have q:=x.cell y c e;rw[mV D C Q (by show scope.names.lookup y≠_;rw[k];decide)] at q;exact q
 ·exact l.hok.fresh (Ut (x.above y c (Q6 h)))
 ·unfold start;show _=N.length;rw[Z8,Zc,Yz];omega
def KA{M:DR}{P:Program}{w:World}{K:vE}{O:Str->Option Value}{h:Heap}{k:Nat}{f:Addr}{name d:Str}{i:Arguments}{j:List Stmt}{scope:Scope}{dV kV D pm g ct oc:Value}{an od:Option Addr}
 {T:Array (Option Value)}{N R:List Str}{sp:Sp}(lk:K.lookup f=some ⟨oc,od,.func (PySem.W.fnOf name d i j scope dV kV D pm an g ct),T⟩)(U:PySem.W.codeIn K g d=true)(S:FnScope N R scope)
 (len:∀l H Q E,sp l H Q E->l.length=R.length)
 (z:∀(A:Around) (outer:List Env) (s:Shared) (H:Hp) (l:List V) (Q:VK) (E:XK),Room k (A.deeper (envOfC d scope s.heap.objs.size f g))->sp l H Q E ->
   ∃t,PSs (Dd M P w K O h N d scope f g A outer s H E) j t/\t {nx:=λ_ p=>Q .non p,rt:=Q} (start N l) H):
  FnOk P w K O h M (k+1) f (PySem.W.fnOf name d i j scope dV kV D pm an g ct) R sp:=by
 refine⟨len,λA outer s H args us l Q E X F hb r G=>?_⟩
 have hl:=len _ _ _ _ G;have KX:K.In s.heap:=F.mod.kin.keeps λb o e=>(F.bs b o e).1
 have Y:s.heap.NoLimit:=F.mod.nolimit.keeps λb o e=>(F.bs b o e).1
 have B:∀y∈R.zip us,scope.names.lookup y.1=some .local\/(scope.names.lookup y.1=some .cell/\((cellsFrom (s.heap.objs.size+1) scope.names []).lookup y.1).isSome=true):=λ⟨n,v⟩ hy=>by
  rcases S.par n (U3 hy).1 with q|q
  ·exact .inl q
  ·exact .inr ⟨q,Vh _ _ _ (.inl q)⟩
 refine codeAny_call_function X.depth (KX _ _ lk) rfl S.co S.gen rfl (PySem.W.codeRec_of KX U) (hb _ _ _ _ ?_);refine wpAny_newFunctionEnv_cells S.kind B λa0 he s1 x=>?_;subst he;refine⟨Y.keeps x.toInCall.keep,codeAny_func ?_⟩
 obtain⟨t,ht,hq⟩:=z A outer s H l Q E (X.deeper _) G
 have I:Inv (Dd M P w K O h N d scope f g A outer s H E) [] (start N l) H s1:=rr S X.hd F hl r x;refine U8 (ht [] s1 (start N l) H _ I hq) (λfl Z C=>?_) λe Z C=>C
 have L:∀{m:St}{p:Hp}{v:V}{u:Value},Inv (Dd M P w K O h N d scope f g A outer s H E) [] m p Z->RelV v u->Q v p->CE outer P w H s Q u Z:=
  λ{m p v u} J rv q=>⟨v,p,J.os,J.bare,J.base,J.hok,rv,q⟩
 cases fl with
 |ret u=>
  obtain⟨v,m,p,J,rv,q⟩:=C
  exact L J rv q
 |next=>
  obtain⟨m,p,J,q⟩:=C
  exact L (v:=V.non) (u:=Value.none) J rfl q
 |brk=>
  obtain⟨_,_,_,q⟩:=C
  exact False.elim q
 |cont=>
  obtain⟨_,_,_,q⟩:=C
  exact False.elim q
section
variable{X:Cx}{x:Str}{p pos:Pos}{e:Expr}{es:List Expr}{t:TA}{id T:String}{r:List V->Hp->VK->Prop}
def tCB(r:List V->Hp->VK->Prop)(t:TA):TE:=λd H Q=>t d H λe f=>r e f Q
def mX(j:cb X (.builtin id) r)(l:Gl X x)(m:X.mg x=none)(n:bootBuiltins x=some (.builtin id))(o:PA X (e::es) t)(q:x ≠ "__name__" := by decide)(f:(x == ("__debug__" : Str))=false:=by decide)
 (u:starEach (e::es) X.env=(false,eval e X.env)::starEach es X.env:=by rfl)(g:(backTo pos (starEach es X.env)).any (·.1)=false:=by rfl):PE X (.Call (.Name x p) (e::es) [] pos) (tCB r t):=by
 intro d s i H Q I h;refine Qu (cU I l m n ?_ q f);exact PyProof.Rows.callWith_builtin1 (CH (o pos d s i H _ I h) λv w ⟨z,A,B,C,D⟩=>j d w i A z v Q B C D) u g
def rA(j:cb X (.type T) r)(l:Gl X x)(m:X.mg x=none)(n:bootBuiltins x=some (.type T))(o:PA X (e::es) t)(q:x ≠ "__name__" := by decide)(f:(x == ("__debug__" : Str))=false:=by decide)
 (u:starEach (e::es) X.env=(false,eval e X.env)::starEach es X.env:=by rfl)(g:(backTo pos (starEach es X.env)).any (·.1)=false:=by rfl):PE X (.Call (.Name x p) (e::es) [] pos) (tCB r t):=by
 intro d s i H Q I h;refine Qu (cU I l m n ?_ q f);exact Y3 (CH (o pos d s i H _ I h) λv w ⟨z,A,B,C,D⟩=>j d w i A z v Q B C D) u g
end
end L2
namespace HT
open PySem PyProof.Rows
section
open PySem.SeqAt
open PySem.AutoSeq1 (wpAny_loadPart')
open PySem.MeetsSeq PySem.MeetsSeq2 PySem.MeetsSeq3
end
section
variable{prog:Program}{w:World}{A:Around}{E:Value->Shared->Prop}{s:Shared}
def sIx(n d:Nat):Option Int->Nat
 |none=>d
 |some v=>if v<0 then(v+(n:Int)).toNat else min v.toNat n
def sIx_none(n d:Nat):sIx n d none=d:=rfl
def sIx_nat(n d k:Nat):sIx n d (some (k:Int))=min k n:=by
 show(if (k:Int)<0 then((k:Int)+(n:Int)).toNat else min (k:Int).toNat n)=min k n;rw[if_neg vB,Zz]
end
end HT
namespace L2
open PySem PySem.Spec PyProof.Rows
abbrev TO:=St->Hp->(Option Int->Hp->Prop)->Prop
def PO(X:Cx)(e:Option Expr)(t:TO):Prop:=
 ∀(d:List (Addr×Obj)) (s:Shared) (f:St) (H:Hp) (Q:Option Int->Hp->Prop),Inv X d f H s->t f H Q ->
  wpAny (model X.prog X.w) X.A (evalPart e X.env) (λu h=>∃o g,Inv X d f g h/\IsPart u o/\Q o g) X.xe s
def rC:TO:=λ_ H Q=>Q none H
def IB(t:TE):TO:=λd H Q=>t d H λx e=>∃i,x=.int i/\Q (some i) e
section
variable{X:Cx}{e:Expr}{te:TE}{lo hi:Option Expr}{tl th:TO}{pos p2:Pos}
def rD:PO X none rC:=by
 intro d s e H Q I h;rw[evalPart_none];exact Zu ⟨none,H,I,.none,h⟩
def rE(h:PE X e te):PO X (some e) (IB te):=by
 intro d s f H Q I g;rw[evalPart_some];refine CH (h d s f H _ I g) λu o ⟨x,j,l,m,n⟩=>?_;obtain⟨i,rfl,q⟩:=n
 obtain⟨t,rfl⟩:=m
 exact⟨some i,j,l,.int i t,q⟩
def SlR(X:Cx)(r:V->Option Int->Option Int->Hp->VK->Prop):Prop:=
 ∀(d:List (Addr×Obj)) (s:Shared) (e:St) (H:Hp) (x:V) (v f g:Value) (lo hi:Option Int) (h:Addr) (Q:VK),Inv X d e H s->RelV x v->s.heap.IsSliceOf h f g .none->IsPart f lo->IsPart g hi->r x lo hi H Q ->
  ∃T id,typeLookup (.type T) "__getitem__" = pure (some (.builtin id))/\s.TypeIs v T/\wpAny (model X.prog X.w) X.A (getItem v (.ref h)) (EP X d e Q) X.xe s
def tSl(r:V->Option Int->Option Int->Hp->VK->Prop)(te:TE)(tl th:TO):TE:=λd H Q=>te d H λx e=>tl d e λl f=>th d f λu H3=>r x l u H3 Q
def rG{r:V->Option Int->Option Int->Hp->VK->Prop}(m:SlR X r)(n:PE X e te)(o:PO X lo tl)(p:PO X hi th):PE X (.Subscript e (.Slice lo hi none p2) pos) (tSl r te tl th):=by
 intro d s g H Q I h;refine Subscript_ (CH (n d s g H _ I h) λv t ⟨x,z,B,C,D⟩=>?_);refine wpAny_Slice (CH (o d t g z _ B D) λi E ⟨l,F,G,pl,J⟩=>CH (p d E g F _ G J) λj f ⟨u,H3,K,L,M⟩=>?_);rw[evalPart_none];refine Zu ?_;have N:Inv X d g H3 {f with heap:=f.heap.push {cls:=.type "slice",data:=.fields #[i,j,.none]} }:=K.kept (t':=f.toks) λb S q=>Ze _ q
 obtain⟨T,id,O,P,R⟩:=m d {f with heap:=f.heap.push {cls:=.type "slice",data:=.fields #[i,j,.none]} } g H3 x v i j l u f.heap.objs.size Q N C (Heap.IsSliceOf.new ..) pl L M
 show wpAny (model X.prog X.w) X.A (subscriptTail e (.Slice lo hi none p2) v (.ref f.heap.objs.size)) (EP X d g Q) X.xe {f with heap:=f.heap.push {cls:=.type "slice",data:=.fields #[i,j,.none]} };exact tail_any (ops:=[.ref f.heap.objs.size,v]) P O R (by with_unfolding_all rfl)
def DM(d:List V)(lo hi:Option Int):List V:=(d.drop (HT.sIx d.length 0 lo)).take (HT.sIx d.length d.length hi-HT.sIx d.length 0 lo)
def rH(d:List V)(lo hi:Option Int):(DM d lo hi).length<=d.length:=by
 unfold DM;rw[Wb,Yr];omega
end
def ixN(n:Nat)(i:Int):Option Nat:=if 0<=i then(if i<n then some i.toNat else none) else if -(n:Int)<=i then some (i+n).toNat else none
def atI{d:Type}(e:List d)(i:Int):Option d:=(ixN e.length i).bind λj=>e[j]?
def ixN_seq{n:Nat}{i:Int}{j:Nat}(h:ixN n i=some j):seqIndex? i n=some j/\j<n /\ -(n:Int)<=i/\i<n:=by
 unfold ixN at h;by_cases f:0<=i
 ·rw[if_pos f] at h;by_cases d:i<n
  ·rw[if_pos d] at h;have e:i.toNat=j:=Zs h;exact⟨by rw[seqIndex_of f d,e],by omega,by omega,d⟩
  ·rw[if_neg d] at h;cases h
 ·rw[if_neg f] at h;by_cases d : -(n:Int)<=i
  ·rw[if_pos d] at h;have e:(i+n).toNat=j:=Zs h;exact⟨by rw[Gw vB d,e],by omega,d,by omega⟩
  ·rw[if_neg d] at h;cases h
def mY{f:Type}{d:List f}{i:Int}{v:f}(h:atI d i=some v):∃j,seqIndex? i d.length=some j/\d[j]? = some v/\j<d.length /\ -(d.length:Int)<=i/\i<d.length:=by
 unfold atI at h;cases e:ixN d.length i with
 |none=>rw[e] at h;cases h
 |some j=>
  rw[e] at h;obtain⟨g,l,m,n⟩:=ixN_seq e
  exact⟨j,g,h,l,m,n⟩
def atI_last{f:Type}(d:List f)(v:f):atI (d++[v]) (-1)=some v:=by
 have g:(d++[v]).length=d.length+1:=by simp
 have e:ixN (d++[v]).length (-1)=some d.length:=by
  unfold ixN;rw[g,if_neg vA,if_pos vB];congr 1
  omega
 unfold atI;rw[e];show(d++[v])[d.length]? = some v;simp
def mZ(b:Expr):Prop:=∀o i,subscripted b false o i=operate [o,i] (getItem o i)
def Mi(X:Cx)(r:R2):Prop:=
 ∀(d slice:Expr) (pins:List (Addr×Obj)) (s:Shared) (e:St) (H:Hp) (x y:V) (v u:Value) (Q:VK),Inv X pins e H s->RelV x v->RelV y u->r x y H Q ->
  subscripted slice false v u=operate [v,u] (getItem v u)->wpAny (model X.prog X.w) X.A (subscriptTail d slice v u) (EP X pins e Q) X.xe s
def MtR(X:Cx)(id:String)(r:V->List V->Hp->VK->Prop):Prop:=
 ∀(d:List (Addr×Obj)) (s:Shared) (e:St) (H:Hp) (x:V) (f:List V) (v:Value) (g:List Value) (Q:VK),Inv X d e H s->RelV x v->Vals f g->r x f H Q ->
  wpAny (model X.prog X.w) X.A (call (.builtin id) (v::g)) (EP X d e Q) X.xe s
section
variable{X:Cx}{a b:Expr}{ta tb:TE}{pos:Pos}
def E8{r:R2}(e:Mi X r)(f:PE X a ta)(g:PE X b tb)(i:mZ b):PE X (.Subscript a b pos) (IC r ta tb):=by
 intro d s j H Q I h;exact Subscript_ (HQ f g I h λv u l x y m n o p q=>e a b d l j m x y v u Q n o p q (i _ _))
def LX(K:vE):R2:=λx y H Q=>∃p d i v,x=.ref p/\y=.int i/\SqL K H p d/\atI d i=some v/\Q v H
def LV(K:vE):R2:=λx y H Q=>∃p d i v,x=.ref p/\y=.int i/\SqT K H p d/\atI d i=some v/\Q v H
def rJ:Mi X (LX X.K):=by
 intro g slice d s o H x y v u Q I D E h A;obtain⟨p,P,i,z,rfl,rfl,F,G,q⟩:=h
 cases D;obtain⟨t,rfl⟩:=E
 obtain⟨l,r,pl,R⟩:=I.list F
 obtain⟨j,f,J,S,L,M⟩:=mY G
 obtain⟨w,B,m⟩:=r.get J
 have N:=r.length;have T:=ir;have e:EP X d o Q w s:=⟨z,H,I,m,q⟩;by_cases C:0<=i
 ·have n:i.toNat=j:=by
   rw[seqIndex_of C M] at f;exact Zs f
  exact item_listR pl.isList C vB (by rw[n];simpa using B) e A
 ·have n:(i+(l.toArray.size:Int)).toNat=j:=by
   rw[Gw vB L] at f;rw[Zr,<-N];exact Zs f
  exact Gm (x:=w) pl.isList.typeIs slot_list_getitem.lookup
   (wpAny_getItem_list_neg (Q:=λr O=>r=w/\EP X d o Q r O) pl.isList vB (by rw[Zr]<;>omega) vB (by rw[n];simpa using B) ⟨rfl,e⟩) A
def Hf:Mi X (LV X.K):=by
 intro e slice d s l H x y v u Q I m n h o;obtain⟨p,L,i,z,rfl,rfl,A,B,q⟩:=h
 cases m;obtain⟨t,rfl⟩:=n
 obtain⟨C,r,pl,M⟩:=I.tuple A
 obtain⟨j,D,E,N,O,P⟩:=mY B
 obtain⟨w,F,f⟩:=r.get E
 have G:=r.length;have R:=ir;have g:EP X d l Q w s:=⟨z,H,I,f,q⟩;exact Gm (x:=w) pl.typeIs slot_tuple_getitem.lookup
  (getItem_tuple (j:=j) (Q:=λr J=>r=w/\EP X d l Q r J) pl vB vB (by rw[Zr,<-G];exact D) (by simpa using F) ⟨rfl,g⟩) o
def rK(d:List Value)(n j:Nat)(u:Value):Obj.mapSeq (·.setIfInBounds j u) {cls:=.type "list",data:=.seq d.toArray n}={cls:=.type "list",data:=.seq (d.set j u).toArray n}:=by
 simp[Obj.mapSeq]
theorem Inv.lst{pins:List (Addr×Obj)}{σ:St}{H:Hp}{s:Shared}{p:Addr}{f:List V}(I:Inv X pins σ H s)(h:H p=some (.lst f)):
  ∃(d:List Value) (n:Nat),Vals f d/\s.heap.get? p=some {cls:=.type "list",data:=.seq d.toArray n}/\f.length<=sizeLine:=by
 obtain⟨z,d,n,r,e⟩:=I.hok p _ h
 exact⟨d,n,r,e,z⟩
def Inv.lstUpd{pins:List (Addr×Obj)}{σ:St}{H:Hp}{s:Shared}{p:Addr}{m i:List V}{g d:List Value}{n j:Nat}{f:Obj->Obj}(I:Inv X pins σ H s)(h:H p=some (.lst m))
 (o:s.heap.get? p=some {cls:=.type "list",data:=.seq g.toArray n})(l:f {cls:=.type "list",data:=.seq g.toArray n}={cls:=.type "list",data:=.seq d.toArray j})(r:Vals i d)(v:i.length<=sizeLine)(t:Nat):
  Inv X pins σ (upd H p (.lst i)) {s with heap:=s.heap.update p f,toks:=t}:=by
 have e:(s.heap.update p f).get? p=some {cls:=.type "list",data:=.seq d.toArray j}:=by
  rw[Wr f o (by rw[l]<;>rfl),l]
 refine I.write (x:=p) (e:=p) (by rw[h];trivial) (.inl rfl) (λb u w q=>(Yu _ _ (Wz w)).trans q) ⟨_,e⟩ ?_;exact⟨v,d,j,r,e⟩
def IS:V->V->V->Hp->(Hp->Prop)->Prop:=λo i v H Q=>∃p d k j,o=.ref p/\i=.int k/\H p=some (.lst d)/\ixN d.length k=some j/\Q (upd H p (.lst (d.set j v)))
def rL:Lg X IS:=by
 intro d s D H o i v M N u Q I E F G h;obtain⟨p,J,k,j,rfl,rfl,w,K,q⟩:=h
 cases E;obtain⟨t,rfl⟩:=F
 obtain⟨e,n,r,g,L⟩:=I.lst w
 obtain⟨f,O,z,A⟩:=ixN_seq K
 have l:=r.length;have P:=ir;have B:Inv X d D (upd H p (.lst (J.set j v))) {s with heap:=s.heap.update p (Obj.mapSeq (·.setIfInBounds j u))}:=
  I.lstUpd w g (rK e n j u) (r.set G j) (by rw[Wq];exact L) s.toks
 by_cases C:0<=k
 ·have m:k.toNat=j:=by
   rw[seqIndex_of C A] at f;exact Zs f
  exact PySem.W.ki_setAt g C vB (by rw[Zr,<-l];exact A) (by rw[m];exact⟨_,B,q⟩)
 ·have m:(k+(e.toArray.size:Int)).toNat=j:=by
   rw[Gw vB z] at f;rw[Zr,<-l];exact Zs f
  exact PySem.W.ki_setBack g vB (by rw[Zr,<-l];exact z) vB (by rw[m];exact⟨_,B,q⟩)
def rM(d e:Option Int)(n:Nat):(sliceBounds d e none n).1=((HT.sIx n 0 d:Nat):Int)/\(sliceBounds d e none n).2.1=((HT.sIx n n e:Nat):Int)/\(sliceBounds d e none n).2.2=1:=by
 refine⟨?_,?_,rfl⟩
 ·cases d with
  |none=>simp[sliceBounds,HT.sIx]
  |some i=>
   simp only[sliceBounds,HT.sIx,Gd,show(1:Int) > 0 by decide,if_true];by_cases h:i<0
   ·simp only[h,if_true]<;>omega
   ·simp only[h,if_false]<;>omega
 ·cases e with
  |none=>simp[sliceBounds,HT.sIx]
  |some i=>
   simp only[sliceBounds,HT.sIx,Gd,show(1:Int) > 0 by decide,if_true];by_cases h:i<0
   ·simp only[h,if_true]<;>omega
   ·simp only[h,if_false]<;>omega
def rN(d:List Value)(e f:Option Int):slicePick d.toArray e f none=((d.drop (HT.sIx d.length 0 e)).take (HT.sIx d.length d.length f-HT.sIx d.length 0 e)).toArray:=by
 obtain⟨g,h,i⟩:=rM e f d.toArray.size
 unfold slicePick;rw[g,h,i];simp only[sliceRange_one,pick_run,Zr]<;>rfl
def LU(K:vE):V->Option Int->Option Int->Hp->VK->Prop:=λx e f H Q=>∃a d,x=.ref a/\SqL K H a d/\∀p,H p=none->Q (.ref p) (upd H p (.lst (DM d e f)))
def rO:SlR X (LU X.K):=by
 intro i s w H x v z A f g B Q I l m pl n h;obtain⟨a,d,rfl,p,q⟩:=h
 cases l;obtain⟨t,r,j,u⟩:=I.list p
 have e:=r.length;refine⟨"list",_,slot_list_getitem.lookup,j.isList.typeIs,?_⟩
 refine wpAny_getItem_list_slice j.isList m pl n .none vC ?_ (by rw[Zr]<;>omega);rw[rN,<-e];refine⟨.ref s.heap.objs.size,_,I.laid (t':=s.toks) (o:=.lst (DM d f g)) (λb C q=>Ze _ q) (Zn _) ?_,rfl,q _ (I.hok.fresh (Zn _))⟩
 exact⟨Y9 (rH d f g) u,_,0,(r.drop (HT.sIx d.length 0 f)).take (HT.sIx d.length d.length g-HT.sIx d.length 0 f),Z4 _ rfl⟩
def m6:cb X (.builtin "len") (λj H Q=>∃p e,j=[.ref p]/\(SqL X.K H p e\/SqT X.K H p e)/\Q (.int e.length) H):=by
 intro l s o H j t Q I r h;obtain⟨p,e,rfl,f,q⟩:=h
 obtain⟨u,rfl,m⟩:=cI r
 cases m;have v:=ir;rcases f with f|f
 ·obtain⟨g,i,pl,n⟩:=I.list f
  have d:=i.length;exact Calls.call_len_list pl.isList (by simp only[Zr]<;>omega) ⟨.int e.length,H,I.tok _,⟨s.toks+1,by rw[Zr,d]⟩,q⟩
 ·obtain⟨g,i,pl,n⟩:=I.tuple f
  have d:=i.length;exact len_tuple pl (by simp only[Zr]<;>omega) ⟨.int e.length,H,I.tok _,⟨s.toks+1,by rw[Zr,d]⟩,q⟩
def m7:cb X (.type "list") (λF H Q=>∃p g,F=[.ref p]/\(SqL X.K H p g\/SqT X.K H p g)/\∀l,H l=none->Q (.ref l) (upd H l (.lst g))):=by
 intro m s J H F M Q I r h;obtain⟨p,g,rfl,t,q⟩:=h
 obtain⟨u,rfl,L⟩:=cI r
 cases L;have v:∀(d:List Value),Vals g d->g.length<=sizeLine->∀(f:Heap) (i:Nat),(∀b G,s.heap.get? b=some G->f.get? b=some G) ->
   f.get? s.heap.objs.size=some {cls:=.type "list",dict:=none,data:=.seq d.toArray i,slots:=#[]}->EP X m J Q (.ref s.heap.objs.size) {s with heap:=f}:=λd j z f i A e=>
  ⟨.ref s.heap.objs.size,_,I.laid (t':=s.toks) A (Zn _) (show ObjOk X.prog X.w _ f _ (.lst g) from⟨z,d,i,j,e⟩),rfl,q _ (I.hok.fresh (Zn _))⟩
 rcases t with t|t
 ·obtain⟨d,j,pl,z⟩:=I.list t
  have B:=j.length;obtain⟨o,C,D,n,E⟩:=pl.isList
  exact call_list_seq p (.inl rfl) C D E (λf i A e=>v d j z f i A e) (by simp only[Zr]<;>omega)
 ·obtain⟨d,j,pl,z⟩:=I.tuple t
  have B:=j.length;obtain⟨o,C,D,n,E⟩:=pl
  exact call_list_seq p (.inr rfl) C D E (λf i A e=>v d j z f i A e) (by simp only[Zr]<;>omega)
def rP:cb X (.type "tuple") (λn H Q=>∃p g,n=[.ref p]/\((SqL X.K H p g/\∀l,H l=none->Q (.ref l) (upd H l (.tup g)))\/(SqT X.K H p g/\Q (.ref p) H))):=by
 intro d s t H n E Q I r h;obtain⟨p,g,rfl,h⟩:=h
 obtain⟨u,rfl,B⟩:=cI r
 cases B;rcases h with⟨j,q⟩|⟨j,q⟩
 ·obtain⟨f,m,pl,v⟩:=I.list j
  have z:=m.length;refine call_tuple_list pl.isList (λi C=>?_) (by simp only[Zr]<;>omega);have A:Inv X d t H {s with heap:=i}:=I.kept (t':=s.toks) C;have D:Inv X d t (upd H i.objs.size (.tup g)) {s with heap:=i.push {cls:=.type "tuple",data:=.seq f.toArray} }:=
   A.laid (t':=s.toks) (λb o e=>Ze _ e) (Zn _) (show ObjOk X.prog X.w _ _ _ (.tup g) from⟨v,f,m,IsTup.new _ _⟩)
  exact⟨.ref i.objs.size,_,D,rfl,q _ (A.hok.fresh (Zn _))⟩
 ·obtain⟨f,m,pl,v⟩:=I.tuple j
  exact call_tuple_same pl ⟨.ref p,H,I,rfl,q⟩
def tyV(K:vE)(T:String)(x:V)(H:Hp):Prop:=match x with
 |.str _=>T = "str"
 |.int _=>T = "int"
 |.ref p=>(T = "list" /\ ∃e,SqL K H p e)\/(T = "tuple" /\ ∃o,K.lookup p=some o/\o.cls=.type "tuple" /\ o.dict=none) \/
   (T = "dict" /\ ((∃d,H p=some (.dK d))\/∃d,H p=some (.dT d)))\/(T = "set" /\ ∃S n,H p=some (.set S n))
 |_=>False
def FA{f:List (Addr×Obj)}{q:St}{H:Hp}{s:Shared}{T:String}{x:V}{v:Value}(I:Inv X f q H s)(r:RelV x v)(g:tyV X.K T x H):
  s.TypeIs v T/\∀a,v=.ref a->∃m,s.heap.get? a=some m/\m.dict=none:=by
 cases x with
 |str z=>
  obtain⟨t,rfl⟩:=r
  cases(show T = "str" from g)
  exact⟨typeIs_str s z t,λ_ e=>nomatch e⟩
 |int i=>
  obtain⟨t,rfl⟩:=r
  cases(show T = "int" from g)
  exact⟨typeIs_int s i t,λ_ e=>nomatch e⟩
 |ref p=>
  cases r;rcases g with⟨rfl,B,u⟩|⟨rfl,o,d,w,h⟩|⟨rfl,d⟩|⟨rfl,S,n,d⟩
  ·obtain⟨A,_,pl,_⟩:=I.list u
   refine⟨pl.isList.typeIs,λa e=>?_⟩
   cases e;obtain⟨o,n,e,c,h,_⟩:=pl
   exact⟨o,e,h⟩
  ·refine⟨⟨o,I.kIn p o d,w⟩,λa e=>?_⟩
   cases e;exact⟨o,I.kIn _ o d,h⟩
  ·have z:∃o,s.heap.get? p=some o/\o.ExactDict:=by
    rcases d with⟨j,d⟩|⟨j,d⟩
    ·obtain⟨_,_,_,_,o,_,_,e,ex,_⟩:=I.hok p _ d
     exact⟨o,e,ex⟩
    ·obtain⟨_,_,_,_,o,_,_,e,ex,_⟩:=I.hok p _ d
     exact⟨o,e,ex⟩
   obtain⟨o,e,ex⟩:=z
   refine⟨⟨o,e,ex.1⟩,λa l=>?_⟩
   cases l;exact⟨o,e,ex.2.1⟩
  ·obtain⟨o,_,_,_,e,ex,_⟩:=I.hok p _ d
   refine⟨⟨o,e,ex.1⟩,λa l=>?_⟩
   cases l;exact⟨o,e,ex.2.1⟩
 |_=>exact False.elim g
def tBM(K:vE)(T:String)(r:V->List V->Hp->VK->Prop)(f:TE)(t:TA):TE:=λd H Q=>f d H λx e=>tyV K T x e/\t d e λg h=>r x g h Q
variable{o e:Expr}{es:List Expr}{to:TE}{t:TA}{name:Str}{apos cpos:Pos}{T id:String}{r:V->List V->Hp->VK->Prop}
def iv(u:PlainAttrs T)(slot:Slot T name id)(l:typeOf (.builtin id)=pure (.type "method_descriptor"))(w:MtR X id r)(z:PE X o to)(A:PA X (e::es) t)
 (g:attributeBase o name X.env (eval o X.env)=eval o X.env:=by rfl)
 (j:((backTo cpos (starEach (e::es) X.env)).all (λx=>!x.1) && (backToKw cpos (keywordEach [] X.env)).all (λx=>x.1.isSome)
   && decide ((e::es).length+([]:List Keyword).length+(if ([]:List Keyword).isEmpty then 0 else 1)<30))=true:=by rfl)
 (i:(apos.endLine == cpos.line)=true:=by rfl)(B:starEach (e::es) X.env=(false,eval e X.env)::starEach es X.env:=by rfl)(f:(backTo cpos (starEach es X.env)).any (·.1)=false:=by rfl):
  PE X (.Call (.Attribute o name apos) (e::es) [] cpos) (tBM X.K T r to t):=by
 intro d s m H Q I h;refine wpAny_Call_method_late g j i rfl (CH (z d s m H _ I h) λv C ⟨x,D,n,p,ty,E⟩=>?_);obtain⟨F,G⟩:=FA n p ty
 refine⟨T,id,u,slot,l,F,G,?_⟩
 have q:=A cpos d C m D _ n E;rw[B] at q |-;refine Calls.callWith_builtin (by show(false || (backTo cpos (starEach es X.env)).any (·.1))=false;rw[f]<;>rfl) (Calls.evalArgs_plain ?_);exact CH q λJ L ⟨M,N,O,P,R⟩=>w d L m N x M v J Q O p P R
end
def MtM(X:Cx)(id:String)(r:V->List V->Hp->VK->Prop):Prop:=
 ∀(d:List (Addr×Obj)) (s:Shared) (e:St) (H:Hp) (x:V) (f:List V) (v:Value) (g:List Value) (Q:VK),Inv X d e H s->RelV x v->Vals f g->r x f H Q ->
  wpAny (model X.prog X.w) X.A (call (.builtin id) (v::g)) (EP X d e Q) X.xe s
def Vals.one:∀{x:V}{us:List Value},Vals [x] us->∃u,us=[u]/\RelV x u:=λh=>by
 cases h with
 |cons r t=>cases t;exact⟨_,rfl,r⟩
theorem Vals.eraseIdx:∀{d:List V}{us:List Value}(i:Nat),Vals d us->Vals (d.eraseIdx i) (us.eraseIdx i)
 |_,_,_,.nil=>.nil
 |_,_,0,.cons _ t=>t
 |_,_,i+1,.cons r t=>.cons r (Vals.eraseIdx i t)
theorem m8{d:Type}:∀(l:List d) (i:Nat),(l.eraseIdx i).length<=l.length
 |[],_=>Zn _
 |_::_,0=>Uc _
 |_::r,i+1=>Nat.succ_le_succ (m8 r i)
section
variable{X:Cx}{pins:List (Addr×Obj)}{σ:St}{H:Hp}{s:Shared}{l b:Addr}{xs ys zs:List V}
def Inv.lset{d its':List Value}{n:Nat}{f:Array Value->Array Value}{g:Nat}(I:Inv X pins σ H s)(h:H l=some (.lst xs))
 (e:s.heap.get? l=some {cls:=.type "list",data:=.seq d.toArray n})(i:f d.toArray=its'.toArray)(j:Vals ys its')(m:ys.length<=sizeLine):
  Inv X pins σ (upd H l (.lst ys)) {s with heap:=s.heap.update l (Obj.mapSeq f),toks:=g}:=by
 have q:=PySem.IsL.update e f;rw[i] at q;refine I.write (x:=l) (e:=l) (by rw[h];exact trivial) (.inl rfl) (λr u o p=>(Yu s.heap (Obj.mapSeq f) (Wz o)).trans p) ⟨_,q⟩ ?_;exact⟨m,its',_,j,q⟩
def Inv.lnew{its:List Value}{t':Nat}(I:Inv X pins σ H s)(d:Vals ys its)(e:ys.length<=sizeLine):
  Inv X pins σ (upd H s.heap.objs.size (.lst ys)) {s with heap:=s.heap.push {cls:=.type "list",data:=.seq its.toArray},toks:=t'}:=
 I.laid (λ_ _ q=>Ze _ q) (Zn _) ⟨e,its,0,d,Z4 _ rfl⟩
theorem Inv.fresh(I:Inv X pins σ H s):H s.heap.objs.size=none:=I.hok.fresh (Zn _)
def Inv.lstM(I:Inv X pins σ H s)(f:H l=some (.lst xs)):xs.length<=sizeLine/\∃(d:List Value) (n:Nat),Vals xs d/\xs.length=d.length/\s.heap.get? l=some {cls:=.type "list",data:=.seq d.toArray n}:=by
 obtain⟨z,d,n,r,e⟩:=I.hok l _ f
 exact⟨z,d,n,r,r.length,e⟩
end
section
variable{X:Cx}
def m9:V->List V->Hp->VK->Prop:=λx e H Q=>∃l d y,x=.ref l/\e=[y]/\H l=some (.lst d)/\d.length<sizeLine/\Q .non (upd H l (.lst (d++[y])))
def kl:MtM X "list.append" m9:=by
 intro f s o H x p v t Q I i j h;obtain⟨l,w,y,rfl,rfl,g,A,q⟩:=h
 cases i;obtain⟨u,rfl,m⟩:=j.one
 obtain⟨z,d,n,r,B,e⟩:=I.lstM g
 refine call_meets F.slot_list_append ⟨_,e,rfl⟩ F.entry_list_append (F.args_list_append_2 _ _) (PySem.list_append l d.toArray n u (by rw[Zr];omega)) ⟨e,?_⟩;refine⟨.non,_,I.lset (its':=d++[u]) g e vC (r.append #v[m]) ?_,rfl,q⟩
 rw[Z8,Js];omega
def FY:V->List V->Hp->VK->Prop:=λx e H Q=>∃l d i k y,x=.ref l/\e=[.int i]/\H l=some (.lst d) /\ -(2^63)<=i/\i<2^63/\seqIndex? i d.length=some k/\d[k]? = some y/\Q y (upd H l (.lst (d.eraseIdx k)))
def rQ:MtM X "list.pop" FY:=by
 intro g s K H x L v M Q I m o h;obtain⟨l,p,i,k,y,rfl,rfl,j,A,B,C,D,q⟩:=h
 cases m;obtain⟨u,rfl,E⟩:=o.one
 obtain⟨t,rfl⟩:=E
 obtain⟨z,d,n,r,G,e⟩:=I.lstM j
 obtain⟨w,J,f⟩:=r.get D
 refine call_meets F.slot_list_pop ⟨_,e,rfl⟩ F.entry_list_pop (F.args_list_pop_2 _ _)
  (MeetsSeq.list_pop_at l d.toArray n i t k w (fitsIndex_both A B) (by rw[Zr,<-G];exact C) (by rw[<-Array.getElem?_toList];exact J) (by rw[Zr];omega)) ⟨e,?_⟩
 refine⟨y,_,I.lset (its':=d.eraseIdx k) j e ?_ (r.eraseIdx k) ?_,f,q⟩
 ·show d.toArray.eraseIdxIfInBounds k=(d.eraseIdx k).toArray;rw[List.eraseIdxIfInBounds_toArray]
 ·have:=m8 p k
  omega
end
section
variable{prog:Program}{w:World}{A:Around}{E:Value->Shared->Prop}{s:Shared}
end
section
variable{X:Cx}
end
end L2
namespace Att
open PySem PySem.W PySem.Calls PyProof.Rows
def rR{P:Params}{h:Heap}:∀(d:List Int) (e:List Value),WellAll P h e (d.map WData.int)->IntsAre e d:=by
 intro d;induction d with
 |nil=>
  intro e w;rw[Wp] at w;cases w;exact .nil
 |cons n d f=>
  intro e w;rw[Zy] at w;cases w with
  |cons a b=>
   cases a;exact .cons _ _ (f _ b)
def rS{l:OpenLaw}{n:Nat}(v:l.most=some n){P:Params}{h:Heap}{args:List WData}{f:List Value}
 (g:l.row.toRowW.claim.pre args=true)(p:WellAll P h f args):
  ∃a t e,f=[Value.ref a]/\args=[WData.list (e.map WData.int)]/\h.get? a=some {cls:=.type "list",data:=.seq t.toArray}/\IntsAre t e/\e.length<=n:=by
 have s:WShape.hasAll [] args [.list .int]=true:=(pre_splitW g).1;have u:l.pre.holds [] {args:=args}=true:=(pre_splitW g).2;obtain⟨d,r,rfl,w,z⟩:=hasAllW_cons s
 obtain rfl:=hasAllW_nil z;obtain⟨F,rfl,A⟩:=hasW_list w
 obtain⟨e,rfl⟩:=items_int A
 have i:e.length<=n:=by
  unfold OpenLaw.pre at u;have m:(WTm.not (.lt (.lit (.int (n:Int))) (.len (.arg 0)))).holds [] {args:=[.list (e.map .int)]}=true:=by
   have m:=(holds_andW u).1;rw[v] at m;exact m
  have o:=condW_of m (w_not (w_lt w_lit (w_len_list (w_arg rfl))));rw[Zc] at o;refine Nat.le_of_not_lt λq=>?_;have B:(n:Int)<((e.length:Nat):Int):=by omega
  first
   |(rw[decide_eq_true B] at o;exact absurd o vA)
   |(simp at o;omega)
 cases p with
 |cons C D=>
  cases D;cases C with
  |list E j=>exact⟨_,_,e,rfl,rfl,E,rR e _ j,i⟩
def rT(l:OpenLaw)(args:List WData):l.row.toRowW.claim.post args (.bool true) args=true:=
 postW_of (r:=l.row.toRowW) (X:=(true == true))
  (show WShape.has [] (.bool true) .bool=true by first|rfl|decide|simp[WShape.has,WShape.arms,WShape.armsAll])
  (show(WTm.eq .res (.lit (.bool true))).value [] {args:=args,res:=some (.bool true),after:=args}=some (.bool (true == true)) from w_eq_bool (w_res rfl) w_lit) rfl
def attach_call{l:OpenLaw}{n:Nat}{q:Program}{g:List Str}{H:(Str->Option Value)->Heap->Prop}{I:World->Heap->Prop}{d:DefRec}
 (L:l.most=some n)(A:d.params.defaults=[])
 (j:∀(w:World) (s₀ e:Shared) (t B:Str->Option Value) (m:Addr) (o:Obj) (C u h:Value) (a:Addr) (i:List Value) (v:List Int),
   Ground q g [] H w s₀ t B e.heap->I w e.heap ->
   e.heap.get? m=some o->o.data=.func (docDef d.name d.params d.body d.scope C u h)->e.heap.CodeRec u d.name->t d.name=some (.ref m) ->
   e.heap.get? a=some {cls:=.type "list",data:=.seq i.toArray}->IntsAre i v->v.length<=n->e.gens = #[] ->
   codeAny (model l.prog w) callerA (.call (.ref m) ⟨[.ref a],[]⟩) (λr z=>r=.ok (.ret (.bool true))/\OldK e.heap z.heap/\z.os=e.os/\AllBare z.gens) e):
  WalkO q g H I l.row.toRowW d [] (λf i=>PySem.call f i):=by
 intro w s₀ e t B G Y m o C u h M kV N O D hD E P args J X p K Q F R;obtain rfl:M=.none:=Dflts.none hD A;obtain rfl:kV=.none:=Dflts.noKw hD;obtain⟨a,i,v,rfl,rfl,s,hints,hlen⟩:=rS L p F
 refine enter_call (Vg (j w s₀ e t B m o C u h a i v G Y N (fd_plain O) D E s hints hlen P) λr z S=>?_);obtain⟨rfl,T,U,V⟩:=S
 exact⟨.inl ⟨.bool true,.bool true,[],rfl,λ_=>rfl,.bool true,rT l _,λ_=>⟨List.Pairwise.nil,λ_ W=>(nomatch W)⟩⟩,T,U,V⟩
section
variable{prog:Program}{w:World}{A:Around}{E:Value->Shared->Prop}{s:Shared}{K:Frag}
end
end Att
namespace L2
open PySem PySem.Spec PyProof.Rows
theorem nc:∀{d:List Value}{e:List Int},IntsAre d e->Vals (e.map V.int) d
 |_,_,.nil=>.nil
 |_,_,.cons n t h=>.cons ⟨t,rfl⟩ (nc h)
def H9(H:Hp):Prop:=∀b,H b=none\/∃o d,H b=some (.frz o (.lst d))
def rV{P:Program}{w:World}{K:vE}{C S:Str->Option Value}{CX:DR}{k:Nat}{T a:Addr}{fd:FuncData}{x:Str}{sp:Sp}{f:Shared}{A:List Value}{D:List Int}
 (KX:K.In f.heap)(E:f.heap.Ns mainGlobals C)(i:f.heap.Ns builtinsNs S)(U:∀x:Str,x ≠ "__name__" -> S x=bootBuiltins x)(G:f.heap.NoLimit)(hg:f.gens = #[])
 (R:f.heap.get? a=some {cls:=.type "list",data:=.seq A.toArray})(hi:IntsAre A D)(hl:D.length<=sizeLine)(hr:Room k callerA)
 (F:∀j:Heap,K.In j->j.Ns mainGlobals C->FnOk P w K C j CX k T fd [x] sp)(B:∀(s:Shared) (u:Value),BindsTo s fd ⟨[u],[]⟩ [(x,u)])
 (X:∀H:Hp,H9 H->SqL K H a (D.map V.int)->sp [.ref a] H (λv _=>v=.bl true) λ_ _ _=>False)
 (Y:∀H e l,CX [] H f (λ_ _ _=>False) e l->False):
  codeAny (model P w) callerA (.call (.ref T) ⟨[.ref a],[]⟩) (λr l=>r=.ok (.ret (.bool true))/\OldK f.heap l.heap/\l.os=f.os/\AllBare l.gens) f:=by
 have rv:=nc hi;have I:=hi.length;have t:∀H:Hp,H9 H->SqL K H a (D.map V.int)->HOk P w H f.heap->(∀b,H b≠none->b=a)->(H a≠none->K.lookup a=none) ->
   codeAny (model P w) callerA (.call (.ref T) ⟨[.ref a],[]⟩) (λr l=>r=.ok (.ret (.bool true))/\OldK f.heap l.heap/\l.os=f.os/\AllBare l.gens) f:=by
  intro H hO hS J hA hK;have g:∀{b:Addr}{o:Obj},f.heap.get? b=some o->H b=none->(Dt f.heap H).get? b=some o:=λe n=>qJ e n
  have Z:∀{b:Addr}{o:Obj}{L:Array DictEntry}{M:Nat},f.heap.get? b=some o->o.data=.dict L M->H b=none:=λ{b o L M} e d=>by
   cases q:H b with
   |none=>rfl
   |some u=>
    have e':b=a:=hA b (by rw[q];simp);subst e';rw[R] at e;cases e;have d':Data.seq A.toArray _=Data.dict L M:=d;cases d'
  have p:∀{b:Addr}{m:Str->Option Value},f.heap.Ns b m->(Dt f.heap H).Ns b m:=λ{b m} ⟨o,L,M,e,d,r⟩=>⟨o,L,M,g e (Z e d),d,r⟩
  have N:K.In (Dt f.heap H):=λb o e=>g (KX b o e) (by
   cases q:H b with
   |none=>rfl
   |some u=>
    have e':b=a:=hA b (by rw[q];simp);subst e';rw[hK (by rw[q];simp)] at e;cases e)
  have hM:Mod K C (Dt f.heap H):=⟨N,p E,⟨S,p i,U⟩,let ⟨mc,h1,h2⟩:=G;⟨mc,p h1,h2⟩⟩;have e0:Env0 P w K C (Dt f.heap H) callerA [] f H:=⟨rfl,hM,λb o e=>qK e,V0 (qI _ _),trivial,λb i=>absurd (show b∈([]:List Addr) from i) vC,J,.of_eq hg⟩;refine Vg ((F _ N (p E)).run callerA [] f H ⟨[.ref a],[]⟩ [.ref a] [.ref a] _ _ hr e0 (B f (.ref a)) #v[rfl] (X H hO hS)) λr l h=>?_;cases r with
  |error e=>exact(Y H e l h).elim
  |ok fl=>
   cases fl with
   |next=>exact False.elim h
   |brk=>exact False.elim h
   |cont=>exact False.elim h
   |ret u=>
    obtain⟨v,H',os,bare,un,O,r',q⟩:=h
    have q':v=.bl true:=q;subst q';obtain rfl:u=Value.bool true:=r';refine⟨rfl,OldK.of_keep λb o e=>?_,os,bare⟩
    cases q:H b with
    |none=>exact un.keep b o e q (by intro z;exact absurd (show b∈([]:List Addr) from z) vC) vC
    |some u=>
     rcases hO b with z|⟨ob,xs,z⟩
     ·rw[q] at z;cases z
     ·have z2:=un.frzs b ob _ z;obtain⟨e1,_⟩:=J b _ z
      obtain⟨e2,_⟩:=O b _ z2
      rw[e] at e1;cases e1;exact e2
 cases hk:K.lookup a with
 |some o=>
  have e:=KX a o hk;rw[R] at e;cases e;refine t (λ_=>none) (λ_=>.inl rfl) (.inr ⟨_,A.toArray,_,hk,rfl,rfl,rfl,by rw[Zr,I];exact hl,by simpa using rv⟩) (λb u z=>by have Q:(none:Option HO)=some u:=z;cases Q) (λb z=>absurd rfl z) λz=>absurd rfl z
 |none=>
  refine t (λb=>if b=a then some (.frz {cls:=.type "list",data:=.seq A.toArray} (.lst (D.map V.int))) else none) (λb=>?_) (.inl (.inr ⟨{cls:=.type "list",data:=.seq A.toArray},if_pos rfl⟩)) (λb u z=>?_) (λb z=>?_) λ_=>hk
  ·by_cases i:b=a
   ·exact .inr ⟨_,_,if_pos i⟩
   ·exact .inl (if_neg i)
  ·by_cases i:b=a
   ·have Q:=(if_pos i).symm.trans z;cases Q;subst i;exact⟨R,by rw[Zc];exact hl,A,_,rv,R⟩
   ·have Q:=(if_neg i).symm.trans z;cases Q
  ·by_cases i:b=a
   ·exact i
   ·exact absurd (if_neg i) z
def walk_of{l:PySem.W.OpenLaw}{n k:Nat}{q:Program}{m:List Str}{R:(Str->Option Value)->Heap->Prop}{N:World->Heap->Prop}{d:DefRec}{K:Params->vE}{CX:World->DR}{sp:World->Sp}{x:Str}
 (S:l.most=some n)(C:n<=sizeLine)(D:d.params.defaults=[])(U:Room k callerA)
 (X:∀(w:World) (h:Heap),N w h->(K w.params).In h)
 (F:∀(w:World) (r:Str->Option Value) (A:Addr) (h:Heap),(K w.params).In h->h.Ns mainGlobals r->r d.name=some (.ref A) ->
   ∃E:FuncData,(∀(s:Shared) (u:Value),BindsTo s E ⟨[u],[]⟩ [(x,u)]) /\
    ∀i:Heap,(K w.params).In i->i.Ns mainGlobals r->FnOk l.prog w (K w.params) r i (CX w) k A E [x] (sp w))
 (I:∀(w:World) (H:Hp) (a:Addr) (B:List Int),B.length<=n->H9 H->SqL (K w.params) H a (B.map V.int)->sp w [.ref a] H (λv _=>v=.bl true) λ_ _ _=>False)
 (J:∀(w:World) (H:Hp) (s:Shared) (e:Value) (L:Shared),CX w [] H s (λ_ _ _=>False) e L->False):
  PySem.W.WalkO q m R N l.row.toRowW d [] (λf O=>PySem.call f O):=by
 refine Att.attach_call S D λw P t r mb A o pm cd Z a O B G Y ho hd a0 M z p j hg=>?_;have Q:=X w _ Y;obtain⟨E,hb,hF⟩:=F w r A _ Q G.T.g M
 exact rV Q G.T.g G.T.b G.T.builtins G.T.nolimit hg z p (Y9 j C) U hF hb (λH hO hS=>I w H a B j hO hS) λH e L=>J w H t e L
def eR(s:Stmt)(j:Nat):Stmt:=match s with
 |.ClassDef _ _ _ body _ _ _ _ _ _ _=>body.getD j (.Pass ⟨0,0,0,0⟩)
 |_=>.Pass ⟨0,0,0,0⟩
def bT(s:Stmt):Arguments:=match s with
 |.FunctionDef _ a _ _ _ _ _ _ _ _=>a
 |_=>{posonlyargs:=[],args:=[],vararg:=none,kwonlyargs:=[],kw_defaults:=[],kwarg:=none,defaults:=[]}
def Bc(s:Stmt):List Stmt:=match s with
 |.FunctionDef _ _ b _ _ _ _ _ _ _=>b
 |_=>[]
def Ba(s:Stmt):Scope:=match s with
 |.FunctionDef _ _ _ _ _ _ sc _ _ _=>sc
 |_=>{kind:=.function,names:=[],isGenerator:=false,isCoroutine:=false}
abbrev C3:DR:=λ_ _ _ _ _ _=>False
abbrev E0:XK:=λ_ _ _=>False
def iw{X:Cx}:fU C3 X E0:=λ_ _ _ _ _ _ _ h=>h.elim
structure Fun(K:vE)(x qual:Str)(st:Stmt)(f:Addr)(fd:FuncData):Prop where
 ex:∃(oc:Value) (od:Option Addr) (kV doc pm:Value) (an:Option Addr) (cdv ct:Value) (osl:Array (Option Value)),
  fd=PySem.W.fnOf x qual (bT st) (Bc st) (Ba st) .none kV doc pm an cdv ct/\K.lookup f=some ⟨oc,od,.func fd,osl⟩/\PySem.W.codeIn K cdv qual=true
 kp:PySem.W.keepIn K (.ref f)=true
section
variable{P:Program}{w:World}{K:vE}{mg:Str->Option Value}{base:Heap}
def Fun.ok{x qual:Str}{st:Stmt}{f:Addr}{fd:FuncData}{N g:List Str}{k:Nat}{sp:Sp}(F:Fun K x qual st f fd)(S:FnScope N g (Ba st))(len:∀d H Q E,sp d H Q E->d.length=g.length)
 (e:∀(cdv:Value) (A:Around) (outer:List Env) (s:Shared) (H:Hp) (d:List V) (Q:VK) (E:XK),Room k (A.deeper (envOfC qual (Ba st) s.heap.objs.size f cdv))->sp d H Q E ->
   ∃t,PSs (Dd C3 P w K mg base N qual (Ba st) f cdv A outer s H E).nox (Bc st) t/\t {nx:=λ_ l=>Q .non l,rt:=Q} (start N d) H):FnOk P w K mg base C3 (k+1) f fd g sp:=by
 obtain⟨oc,od,kV,doc,pm,an,cdv,ct,osl,rfl,lk,i⟩:=F.ex
 refine KA lk i S len λA outer s H d Q E m j=>?_;obtain⟨t,h,q⟩:=e cdv A outer s H d Q E m j
 exact⟨t,h.nox,q⟩
def Fun.binds{x qual:Str}{st:Stmt}{f:Addr}{fd:FuncData}{d:List Str}(F:Fun K x qual st f fd)
 (h:∀(kV doc pm:Value) (an:Option Addr) (cdv ct:Value) (us:List Value),us.length=d.length->bindArgs (PySem.W.fnOf x qual (bT st) (Bc st) (Ba st) .none kV doc pm an cdv ct) ⟨us,[]⟩=pure (d.zip us)):Binds K fd d []:=by
 obtain⟨oc,od,kV,doc,pm,an,cdv,ct,osl,rfl,lk,e⟩:=F.ex
 exact .all (h kV doc pm an cdv ct)
def iy{x d:Str}{st:Stmt}{f:Addr}{m:Value}{n i:Option Addr}{h:Array (Option Value)}{kV g j e ct:Value}(l:K.lookup f=some ⟨m,n,.func (PySem.W.fnOf x d (bT st) (Bc st) (Ba st) .none kV g j i e ct),h⟩)
 (c:PySem.W.codeIn K e d=true)(k:PySem.W.keepIn K (.ref f)=true):Fun K x d st f (PySem.W.fnOf x d (bT st) (Bc st) (Ba st) .none kV g j i e ct):=⟨⟨m,n,kV,g,j,i,e,ct,h,rfl,l,c⟩,k⟩
end
def rW{n:Nat}(h:n<=1000):n<sizeLine:=Wg h vA
section
variable{X:Cx}
end
def Ds{A B:Prop}(h:B):if false=true then A else B:=by
 rw[if_neg Z0];exact h
def Dm{A B:Prop}(h:A):if true=true then A else B:=by
 rw[if_pos rfl];exact h
def Same(H d:Hp):Prop:=∀b o,H b=some o->d b=some o
def Same.refl(H:Hp):Same H H:=λ_ _ h=>h
def Same.trans{H d e:Hp}(a:Same H d)(b:Same d e):Same H e:=λc o h=>b c o (a c o h)
def Same.free{H d:Hp}(e:Same H d){l:Addr}(h:d l=Option.none):H l=Option.none:=by
 cases q:H l with
 |none=>rfl
 |some o=>
  rw[e l o q] at h;cases h
def Same.seq{K:vE}{H d:Hp}{a:Addr}{f:List V}(e:Same H d)(h:SqL K H a f):SqL K d a f:=by
 rcases h with(h|⟨o,h⟩)|h
 ·exact .inl (.inl (e _ _ h))
 ·exact .inl (.inr ⟨o,e _ _ h⟩)
 ·exact .inr h
end L2
namespace DL
open PySem L2
inductive D where
 |non|bl (b:Bool)|int (i:Int)|tup (l:List D)|lst (l:List D)|exc (x:Str)|obj (a:Addr) (l:List D)
def flds:List Str:=["place","side","least","closing"]
def Lh(a C:Addr):HO:=.ext λh=>∃o d,h.get? a=some o/\o.cls=.ref C/\o.data=.fields d
mutual
def Den(K:vE)(F:Hp):D->V->Prop
 |.non,v=>v=.non
 |.bl b,v=>v=.bl b
 |.int i,v=>v=.int i
 |.tup l,v=>∃a d,v=.ref a/\SqT K F a d/\DenL K F l d
 |.lst l,v=>∃a d,v=.ref a/\SqL K F a d/\DenL K F l d
 |.exc x,v=>∃a C,v=.ref a/\PySem.W.nsIn K mainGlobals x=some (some (.ref C))/\F a=some (Lh a C)
 |.obj a l,v=>v=.ref a/\∃C g e d,PySem.W.nsIn K mainGlobals "Bound" = some (some (.ref C))/\F a=some (.ins C g e)/\(flds.map λf=>e.lookup f)=d.map some/\DenL K F l d
def DenL(K:vE)(F:Hp):List D->List V->Prop
 |[],e=>e=[]
 |d::l,e=>∃v f,e=v::f/\Den K F d v/\DenL K F l f
end
def Same.tup{K:vE}{H d:Hp}{a:Addr}{f:List V}(e:Same H d)(h:SqT K H a f):SqT K d a f:=by
 rcases h with(h|⟨o,h⟩)|h
 ·exact .inl (.inl (e _ _ h))
 ·exact .inl (.inr ⟨o,e _ _ h⟩)
 ·exact .inr h
mutual
theorem Den.mono{K:vE}{F g:Hp}(s:Same F g):∀(d:D){v:V},Den K F d v->Den K g d v
 |.non,_,h=>by simpa only[Den] using h
 |.bl _,_,h=>by simpa only[Den] using h
 |.int _,_,h=>by simpa only[Den] using h
 |.tup l,_,h=>by
  simp only[Den] at h |-;obtain⟨a,f,e,q,r⟩:=h
  exact⟨a,f,e,Same.tup s q,DenL.mono s l r⟩
 |.lst l,_,h=>by
  simp only[Den] at h |-;obtain⟨a,f,e,q,r⟩:=h
  exact⟨a,f,e,s.seq q,DenL.mono s l r⟩
 |.exc _,_,h=>by
  simp only[Den] at h |-;obtain⟨a,C,e,q,r⟩:=h
  exact⟨a,C,e,q,s _ _ r⟩
 |.obj _ l,_,h=>by
  simp only[Den] at h |-;obtain⟨e,C,i,j,f,c,q,k,r⟩:=h
  exact⟨e,C,i,j,f,c,s _ _ q,k,DenL.mono s l r⟩
theorem DenL.mono{K:vE}{F f:Hp}(s:Same F f):∀(l:List D){g:List V},DenL K F l g->DenL K f l g
 |[],_,h=>by simpa only[DenL] using h
 |d::l,_,h=>by
  simp only[DenL] at h |-;obtain⟨v,i,e,q,r⟩:=h
  exact⟨v,i,e,Den.mono s d q,DenL.mono s l r⟩
end
section
variable{K:vE}{F F':Hp}
def DenL.nil:DenL K F [] []:=by simp only[DenL]
def DenL.cons{d:D}{l:List D}{v:V}{e:List V}(h:Den K F d v)(r:DenL K F l e):DenL K F (d::l) (v::e):=by
 simp only[DenL];exact⟨v,e,rfl,h,r⟩
def DenL.inv_nil{d:List V}(h:DenL K F [] d):d=[]:=by simpa only[DenL] using h
def DenL.inv_cons{d:D}{l:List D}{e:List V}(h:DenL K F (d::l) e):∃v f,e=v::f/\Den K F d v/\DenL K F l f:=by simpa only[DenL] using h
theorem DenL.length:∀{l:List D}{f:List V},DenL K F l f->f.length=l.length
 |[],_,h=>by rw[h.inv_nil];rfl
 |d::l,_,h=>by
  obtain⟨v,g,e,_,r⟩:=h.inv_cons
  subst e;rw[Zw,Zw,r.length]
theorem DenL.get:∀{l:List D}{f:List V}{i:Nat}{d:D},DenL K F l f->l[i]? = some d->∃v,f[i]? = some v/\Den K F d v
 |[],_,_,_,_,e=>by simp at e
 |d::l,_,0,g,h,e=>by
  obtain⟨v,j,z,q,r⟩:=h.inv_cons
  subst z;simp at e;subst e
  exact⟨v,by simp,q⟩
 |d::l,_,i+1,g,h,e=>by
  obtain⟨v,j,z,q,r⟩:=h.inv_cons
  subst z;obtain⟨u,m,n⟩:=DenL.get (i:=i) (d:=g) r (by simpa using e)
  exact⟨u,by simpa using m,n⟩
theorem DenL.append:∀{l m:List D}{f e:List V},DenL K F l f->DenL K F m e->DenL K F (l++m) (f++e)
 |[],_,_,_,h,q=>by rw[h.inv_nil];simpa using q
 |d::l,m,_,e,h,q=>by
  obtain⟨v,g,z,p,r⟩:=h.inv_cons
  subst z;exact DenL.cons p (DenL.append r q)
theorem DenL.take:∀{l:List D}{e:List V}(n:Nat),DenL K F l e->DenL K F (l.take n) (e.take n)
 |[],_,n,h=>by rw[h.inv_nil];simpa using DenL.nil
 |_::_,_,0,_=>by simpa using DenL.nil
 |d::l,_,n+1,h=>by
  obtain⟨v,f,z,p,r⟩:=h.inv_cons
  subst z;exact DenL.cons p (DenL.take n r)
theorem DenL.drop:∀{l:List D}{e:List V}(n:Nat),DenL K F l e->DenL K F (l.drop n) (e.drop n)
 |[],_,n,h=>by rw[h.inv_nil];simpa using DenL.nil
 |_::_,_,0,h=>by simpa using h
 |d::l,_,n+1,h=>by
  obtain⟨v,f,z,p,r⟩:=h.inv_cons
  subst z;simpa using DenL.drop n r
theorem DenL.ints:∀(d:List Int),DenL K F (d.map D.int) (d.map V.int)
 |[]=>DenL.nil
 |n::d=>DenL.cons (by simp only[Den]) (DenL.ints d)
theorem Den.int{i:Int}{v:V}(h:Den K F (.int i) v):v=.int i:=by simpa only[Den] using h
theorem Den.bl{b:Bool}{v:V}(h:Den K F (.bl b) v):v=.bl b:=by simpa only[Den] using h
theorem Den.non{v:V}(h:Den K F .non v):v=.non:=by simpa only[Den] using h
theorem Den.tup{l:List D}{v:V}(h:Den K F (.tup l) v):∃a d,v=.ref a/\SqT K F a d/\DenL K F l d:=by simpa only[Den] using h
theorem Den.lst{l:List D}{v:V}(h:Den K F (.lst l) v):∃a d,v=.ref a/\SqL K F a d/\DenL K F l d:=by simpa only[Den] using h
theorem Den.exc{x:Str}{v:V}(h:Den K F (.exc x) v):∃a C,v=.ref a/\PySem.W.nsIn K mainGlobals x=some (some (.ref C))/\F a=some (Lh a C):=by simpa only[Den] using h
theorem Den.obj{a:Addr}{l:List D}{v:V}(h:Den K F (.obj a l) v):v=.ref a/\∃C g d e,PySem.W.nsIn K mainGlobals "Bound" = some (some (.ref C))/\F a=some (.ins C g d)/\(flds.map λf=>d.lookup f)=e.map some/\DenL K F l e:=by simpa only[Den] using h
def Den.obj_mk{a C e:Addr}{l:List D}{d:List (Str×V)}{xs:List V}(c:PySem.W.nsIn K mainGlobals "Bound" = some (some (.ref C)))(q:F a=some (.ins C e d))(k:(flds.map λf=>d.lookup f)=xs.map some)(r:DenL K F l xs):Den K F (.obj a l) (.ref a):=by simp only[Den];exact⟨trivial,C,e,d,xs,c,q,k,r⟩
def Den.int_mk{i:Int}:Den K F (.int i) (.int i):=by simp only[Den]
def Den.bl_mk{b:Bool}:Den K F (.bl b) (.bl b):=by simp only[Den]
def Den.non_mk:Den K F .non .non:=by simp only[Den]
def Den.tup_mk{l:List D}{a:Addr}{d:List V}(q:SqT K F a d)(r:DenL K F l d):Den K F (.tup l) (.ref a):=by simp only[Den];exact⟨a,d,rfl,q,r⟩
def Den.lst_mk{l:List D}{a:Addr}{d:List V}(q:SqL K F a d)(r:DenL K F l d):Den K F (.lst l) (.ref a):=by simp only[Den];exact⟨a,d,rfl,q,r⟩
end
inductive W where
 |val (d:D)|new (l:List D)
def W.d:W->D
 |.val d=>d
 |.new l=>.lst l
abbrev CF:=List (Option D)
structure ER(K:vE)(H0 Fc F H:Hp)(σ:St)(ρ:CF):Prop where
 sub:Same F H
 same:Same H0 H
 base:Same Fc F
 new:∀a o,F a=some o->Fc a=some o\/H0 a=none
 env:∀(i:Nat) d,ρ[i]? = some (some d)->∃v,σ[i]? = some (some v)/\Den K F d v
def RW(K:vE)(f F H:Hp):W->V->Prop
 |.val d,v=>Den K F d v
 |.new l,v=>∃a e,v=.ref a/\F a=none/\f a=none/\H a=some (.lst e)/\DenL K F l e
def bU{F:Hp}{a:Addr}{o:HO}(h:F a=none):Same F (upd F a o):=λb u e=>by
 rw[Bg (λz=>by subst z;rw[h] at e;cases e)];exact e
section
variable{K:vE}{H0 Fc F H:Hp}{σ:St}{ρ:CF}
def ER.lay(R:ER K H0 Fc F H σ ρ){a:Addr}(o:HO)(g:H a=none):ER K H0 Fc (upd F a o) (upd H a o) σ ρ/\Same F (upd F a o):=by
 have j:F a=none:=by
  cases q:F a with
  |none=>rfl
  |some u=>rw[R.sub a u q] at g;cases g
 have l:H0 a=none:=R.same.free g;have h:=bU (o:=o) j;refine⟨⟨λb u e=>?_,R.same.trans (bU g),R.base.trans h,λb u e=>?_,λi d e=>?_⟩,h⟩
 ·by_cases f:b=a
  ·subst f;rw[Bh] at e |-;exact e
  ·rw[Bg f] at e |-;exact R.sub b u e
 ·by_cases f:b=a
  ·subst f;exact .inr l
  ·rw[Bg f] at e;exact R.new b u e
 ·obtain⟨v,m,n⟩:=R.env i d e
  exact⟨v,m,n.mono h⟩
def ER.freeze(R:ER K H0 Fc F H σ ρ){a:Addr}{g:List V}(j:F a=none)(l:H0 a=none)(m:H a=some (.lst g)):ER K H0 Fc (upd F a (.lst g)) H σ ρ/\Same F (upd F a (.lst g)):=by
 have h:=bU (o:=.lst g) j;refine⟨⟨λb u e=>?_,R.same,R.base.trans h,λb u e=>?_,λi d e=>?_⟩,h⟩
 ·by_cases f:b=a
  ·subst f;rw[Bh] at e;cases e;exact m
  ·rw[Bg f] at e;exact R.sub b u e
 ·by_cases f:b=a
  ·subst f;exact .inr l
  ·rw[Bg f] at e;exact R.new b u e
 ·obtain⟨v,n,p⟩:=R.env i d e
  exact⟨v,n,p.mono h⟩
theorem RW.freeze{w:W}{v:V}(R:ER K H0 Fc F H σ ρ)(h:RW K H0 F H w v):∃f,Same F f/\ER K H0 Fc f H σ ρ/\Den K f w.d v:=by
 cases w with
 |val d=>exact⟨F,Same.refl _,R,h⟩
 |new l=>
  obtain⟨a,n,e,g,i,j,r⟩:=h
  subst e;obtain⟨m,s⟩:=R.freeze g i j
  exact⟨_,s,m,Den.lst_mk (SqL.of Bh) (r.mono s)⟩
end
section
variable(K:vE)(H0 Fc:Hp)(ρ:CF)
def tD(w:W):TE:=λf H Q=>∃F,ER K H0 Fc F H f ρ/\∀v d e,Same F e->ER K H0 Fc e d f ρ->RW K H0 e d w v->Q v d
def Lq(d:D):TE:=λf H Q=>∃F,ER K H0 Fc F H f ρ/\∀v g e,Same F e->ER K H0 Fc e g f ρ->Den K e d v->Q v g
def tDA(h:List D):TA:=λe H Q=>∃F,ER K H0 Fc F H e ρ/\∀f g d,Same F d->ER K H0 Fc d g e ρ->DenL K d h f->Q f g
def LN(b:Bool):TT:=λd H Q=>∃F,ER K H0 Fc F H d ρ/\∀e f,Same F f->ER K H0 Fc f e d ρ->Q b e
end
def PE.mono{X:Cx}{e:Expr}{t g:TE}(h:PE X e t)(k:∀d H Q,g d H Q->t d H Q):PE X e g:=λf s d H Q I q=>h f s d H Q I (k d H Q q)
def PT.mono{X:Cx}{e:Expr}{t g:TT}(h:PT X e t)(k:∀d H Q,g d H Q->t d H Q):PT X e g:=λf s d H Q I q=>h f s d H Q I (k d H Q q)
def PW.mono{X:Cx}{e:Expr}{t g:TT}(h:PW X e t)(k:∀d H Q,g d H Q->t d H Q):PW X e g:=λi f s d H Q I q=>h i f s d H Q I (k d H Q q)
def PA.mono{X:Cx}{e:List Expr}{t g:TA}(h:PA X e t)(k:∀d H Q,g d H Q->t d H Q):PA X e g:=λpos f s d H Q I q=>h pos f s d H Q I (k d H Q q)
def PS.mono{X:Cx}{e:Stmt}{t g:TS}(h:PS X e t)(k:∀D d H,g D d H->t D d H):PS X e g:=λf s d H D I q=>h f s d H D I (k D d H q)
def PSs.mono{X:Cx}{e:List Stmt}{t g:TS}(h:PSs X e t)(k:∀D d H,g D d H->t D d H):PSs X e g:=λf s d H D I q=>h f s d H D I (k D d H q)
def DE(X:Cx)(e:Expr)(d:CF)(w:W):Prop:=∀f g,PE X e (tD X.K f g d w)
def DF(X:Cx)(e:Expr)(f:CF)(d:D):Prop:=∀g h,PE X e (Lq X.K g h f d)
def DA(X:Cx)(d:List Expr)(e:CF)(f:List D):Prop:=∀g h,PA X d (tDA X.K g h e f)
def DT(X:Cx)(e:Expr)(d:CF)(b:Bool):Prop:=∀f g,PT X e (LN X.K f g d b)
def DW(X:Cx)(e:Expr)(d:CF)(b:Bool):Prop:=∀f g,PW X e (LN X.K f g d b)
section
variable{X:Cx}{e a b c:Expr}{es:List Expr}{ρ:CF}{w:W}{pos:Pos}
def DE.df(h:DE X e ρ w):DF X e ρ w.d:=λf g=>PE.mono (h f g) λo H Q ⟨F,R,k⟩=>
 ⟨F,R,λv i p s j q=>by
  obtain⟨l,m,R2,n⟩:=RW.freeze j q
  exact k v i l (s.trans m) R2 n⟩
def DF.de{d:D}(h:DF X e ρ d):DE X e ρ (.val d):=λf g=>PE.mono (h f g) λm H Q ⟨F,R,k⟩=>⟨F,R,λv i j s l q=>k v i j s l q⟩
def DF.var{i:Nat}{x:Str}{d:D}(f:X.N[i]? = some x)(g:DX X.env.scope x)(h:(x == ("__debug__" : Str))=false)(e:(x == ("__classdict__" : Str))=false)(j:ρ[i]? = some (some d)):DF X (.Name x pos) ρ d:=λn o=>
 PE.mono (bA f g h e) λp H Q ⟨F,R,k⟩=>by
  obtain⟨v,l,m⟩:=R.env i d j
  exact⟨v,l,k v H F (Same.refl _) R m⟩
def DF.cint{i:Int}{j}:DF X (.Constant (.int i) j pos) ρ (.int i):=λd e=>PE.mono GI λf H Q ⟨F,R,k⟩=>k _ H F (Same.refl _) R Den.int_mk
def DF.cbl{i:Bool}{j}:DF X (.Constant (.bool i) j pos) ρ (.bl i):=λd e=>PE.mono IZ λf H Q ⟨F,R,k⟩=>k _ H F (Same.refl _) R Den.bl_mk
def DF.cnon{j}:DF X (.Constant .none j pos) ρ .non:=λd e=>PE.mono mF λf H Q ⟨F,R,k⟩=>k _ H F (Same.refl _) R Den.non_mk
def eS{x y:D}{e f:Hp}{r:R2}{w:W}{K:vE}
 (l:∀H F d v u (Q:VK),ER K e f F H d ρ->Den K F x v->Den K F y u->(∀i g h,Same F h->ER K e f h g d ρ->RW K e h g w i->Q i g)->r v u H Q):
  ∀d H Q,tD K e f ρ w d H Q->IC r (Lq K e f ρ x) (Lq K e f ρ y) d H Q:=λd H Q ⟨F,R,k⟩=>
 ⟨F,R,λv C m n o p=>⟨m,o,λu q s j R2 t=>l q s d v u Q R2 (p.mono j) t λi g h z A B=>k i g h ((n.trans j).trans z) A B⟩⟩
def DE.opI{d:Operator}{C:Int->Int->Prop}{g:Int->Int->V}{x y:Int}{z:D}(h:Dk X (binaryOp d) (rI C g))(i:DF X a ρ (.int x))(j:DF X b ρ (.int y))(l:C x y)(m:∀K F,Den K F z (g x y)):
  DE X (.BinOp a d b pos) ρ (.val z):=λe f=>PE.mono (kh h (i e f) (j e f)) (eS λH F r v u Q R n o k=>by
   have p:=n.int;have q:=o.int;subst p;subst q;exact⟨x,y,rfl,rfl,l,k _ H F (Same.refl _) R (m _ _)⟩)
def DE.opI0{d:Operator}{g:Int->Int->V}{x y:Int}{z:D}(h:Dk X (binaryOp d) (Eu g))(i:DF X a ρ (.int x))(j:DF X b ρ (.int y))(l:∀K F,Den K F z (g x y)):
  DE X (.BinOp a d b pos) ρ (.val z):=λe f=>PE.mono (kh h (i e f) (j e f)) (eS λH F q v u Q R m n k=>by
   have o:=m.int;have p:=n.int;subst o;subst p;exact⟨x,y,rfl,rfl,k _ H F (Same.refl _) R (l _ _)⟩)
end
open PySem L2 PyProof.Rows
section
variable{K:vE}{H0 Fc F H:Hp}{σ:L2.St}{ρ:CF}
def ER.put(R:ER K H0 Fc F H σ ρ){a:Addr}(o:HO)(d:H a=none):ER K H0 Fc F (upd H a o) σ ρ/\F a=none/\H0 a=none:=by
 have e:F a=none:=by
  cases q:F a with
  |none=>rfl
  |some u=>rw[R.sub a u q] at d;cases d
 exact⟨⟨R.sub.trans (bU d),R.same.trans (bU d),R.base,R.new,R.env⟩,e,R.same.free d⟩
end
section
variable{K:vE}{H0 F H:Hp}
theorem RW.v{d:D}{v:V}(h:Den K F d v):RW K H0 F H (.val d) v:=h
theorem RW.int{i:Int}:RW K H0 F H (.val (.int i)) (.int i):=RW.v Den.int_mk
theorem RW.bl{i:Bool}:RW K H0 F H (.val (.bl i)) (.bl i):=RW.v Den.bl_mk
def RW.n{l:List D}{a:Addr}{d:List V}(e:F a=none)(f:H0 a=none)(g:H a=some (.lst d))(h:DenL K F l d):RW K H0 F H (.new l) (.ref a):=⟨a,d,rfl,e,f,g,h⟩
end
section
variable{X:Cx}{e a b c:Expr}{es:List Expr}{ρ:CF}{w:W}{pos:Pos}
def rX{x:D}{e h:Hp}{r:V->Hp->VK->Prop}{w:W}{K:vE}
 (j:∀H F d v (Q:VK),ER K e h F H d ρ->Den K F x v->(∀i f g,Same F g->ER K e h g f d ρ->RW K e g f w i->Q i f)->r v H Q):
  ∀d H Q,tD K e h ρ w d H Q->tUn r (Lq K e h ρ x) d H Q:=λd H Q ⟨F,R,k⟩=>
 ⟨F,R,λv l m n o p=>j l m d v Q o p λi f g q s t=>k i f g (n.trans q) s t⟩
def DE.neg{x:Int}(d:DF X a ρ (.int x)):DE X (.UnaryOp .USub a pos) ρ (.val (.int (-x))):=λe f=>PE.mono (IY Fy (d e f)) (rX λH F i v Q R g k=>by
 have h:=g.int;subst h;exact⟨x,rfl,k _ H F (Same.refl _) R RW.int⟩)
def Bd:Expr->Bool
 |.Starred _ _=>false
 |_=>true
def Bj{env:Env}(h:Bd e=true):starEach (e::es) env=(false,eval e env)::starEach es env:=by
 cases e<;>first|rfl|(cases h;done)
theorem fV{env:Env}:∀{es:List Expr},es.all Bd=true->(backTo pos (starEach es env)).any (·.1)=false
 |[],_=>rfl
 |e::es,h=>by
  rw[W7,Zl] at h;rw[Bj h.1];show(false || (backTo pos (starEach es env)).any (·.1))=false;rw[fV h.2];rfl
theorem DA.nil:DA X [] ρ []:=λd e=>PA.mono cJ λf H Q ⟨F,R,k⟩=>k [] H F (Same.refl _) R DenL.nil
theorem DA.cons{d:D}{f:List D}(j:DF X e ρ d)(l:DA X es ρ f)(m:Bd e=true):DA X (e::es) ρ (d::f):=λg h=>
 PA.mono (cc (j g h) (l g h) (Bj m)) λw H Q ⟨F,R,k⟩=>
  ⟨F,R,λv z n o p q=>⟨n,p,λr s t i R2 u=>k (v::r) s t (o.trans i) R2 (DenL.cons (q.mono i) u)⟩⟩
theorem DE.tup{d:List D}{g}(h:DA X es ρ d)(i:d.length<=sizeLine):DE X (.Tuple es g pos) ρ (.val (.tup d)):=λj l=>PE.mono (GF (h j l)) λr H Q ⟨F,R,k⟩=>
 ⟨F,R,λm s t n o e=>⟨by rw[e.length];exact i,λp q=>by
  obtain⟨R2,f⟩:=o.lay (.tup m) q
  exact k _ _ _ (n.trans f) R2 (RW.v (Den.tup_mk (SqT.of Bh) (e.mono f)))⟩⟩
theorem DE.lst{d:List D}(f:DA X es ρ d)(g:d.length<=sizeLine):DE X (.List es pos) ρ (.new d):=λh i=>PE.mono (kj (f h i)) λs H Q ⟨F,R,k⟩=>
 ⟨F,R,λj t u l m e=>⟨by rw[e.length];exact g,λp o=>by
  obtain⟨R2,q,r⟩:=m.put (.lst j) o
  exact k _ _ _ l R2 (RW.n q r Bh e)⟩⟩
def eT:Expr->Bool
 |.Slice _ _ _ _=>false
 |_=>true
def nh(h:eT b=true):mZ b:=λo i=>by
 cases b<;>first|rfl|(cases h;done)
def ni{K:vE}{F:Hp}{l:List D}{f:List V}{i:Int}{d:D}(h:DenL K F l f)(e:atI l i=some d):∃v,atI f i=some v/\Den K F d v:=by
 unfold atI at e |-;rw[h.length];cases q:ixN l.length i with
 |none=>rw[q] at e;cases e
 |some j=>
  rw[q] at e;exact h.get e
def DE.ixT{l:List D}{i:Int}{d:D}(g:DF X a ρ (.tup l))(h:DF X b ρ (.int i))(j:eT b=true)(m:atI l i=some d):DE X (.Subscript a b pos) ρ (.val d):=λe f=>
 PE.mono (E8 Hf (g e f) (h e f) (nh j)) (eS λH F B v u Q R n o k=>by
  obtain⟨p,q,s,t,r⟩:=n.tup
  have w:=o.int;subst s;subst w;obtain⟨y,z,A⟩:=ni r m
  exact⟨p,q,i,y,rfl,rfl,Same.tup R.sub t,z,k _ H F (Same.refl _) R (RW.v A)⟩)
def DE.ixL{l:List D}{i:Int}{d:D}(g:DF X a ρ (.lst l))(h:DF X b ρ (.int i))(j:eT b=true)(m:atI l i=some d):DE X (.Subscript a b pos) ρ (.val d):=λe f=>
 PE.mono (E8 rJ (g e f) (h e f) (nh j)) (eS λH F B v u Q R n o k=>by
  obtain⟨p,q,s,t,r⟩:=n.lst
  have w:=o.int;subst s;subst w;obtain⟨y,z,A⟩:=ni r m
  exact⟨p,q,i,y,rfl,rfl,R.sub.seq t,z,k _ H F (Same.refl _) R (RW.v A)⟩)
def DO(X:Cx)(e:Option Expr)(ρ:CF)(o:Option Int):Prop:=∀d f,PO X e (λg H Q=>∃F,ER X.K d f F H g ρ/\∀h i,Same F i->ER X.K d f i h g ρ->Q o h)
theorem DO.none:DO X none ρ none:=λe f pins s d H Q I ⟨F,R,k⟩=>rD pins s d H Q I (k H F (Same.refl _) R)
theorem DO.some{i:Int}(h:DF X e ρ (.int i)):DO X (some e) ρ (some i):=λd f pins s g H Q I ⟨F,R,k⟩=>rE (h d f) pins s g H Q I
 ⟨F,R,λv j l m n o=>⟨i,o.int,k j l m n⟩⟩
def cutD(l:List D)(d e:Option Int):List D:=(l.drop (HT.sIx l.length 0 d)).take (HT.sIx l.length l.length e-HT.sIx l.length 0 d)
def rY{K:vE}{F:Hp}{l:List D}{d:List V}{e f:Option Int}(h:DenL K F l d):DenL K F (cutD l e f) (DM d e f):=by
 unfold cutD DM;rw[h.length];exact(h.drop _).take _
def DE.slL{l:List D}{h m:Option Expr}{i j:Option Int}{t:Pos}(u:DF X a ρ (.lst l))(w:DO X h ρ i)(z:DO X m ρ j):DE X (.Subscript a (.Slice h m none t) pos) ρ (.new (cutD l i j)):=λd e=>
 PE.mono (rG rO (u d e) (w d e) (z d e)) λO H Q ⟨F,R,k⟩=>⟨F,R,λv P A B C E=>⟨A,C,λS G f R2=>⟨G,R2,λH3 T g o=>by
  obtain⟨p,s,I,J,r⟩:=E.lst
  subst I;refine⟨p,s,rfl,o.sub.seq (g.seq (f.seq J)),λq K=>?_⟩
  obtain⟨L,M,N⟩:=o.put (.lst (DM s i j)) K
  exact k _ _ _ (B.trans (f.trans g)) L (RW.n M N Bh (rY ((r.mono f).mono g)))⟩⟩⟩
def Et(K:vE)(n:Nat)(g:∅):Sp:=λh H Q _=>∃F f w,Same F H/\DenL K F f h/\f.length=n/\g f=some w /\
 ∀v d e,Same H d->Same F e->Same e d->(∀a o,e a=some o->F a=some o\/H a=none)->RW K H e d w v->Q v d
def nj(X:Cx)(x:Str)(n:Nat)(e:∅):Prop:=∃(k:Nat) (f:Addr) (d:FuncData) (ps:List Str),
 FnOk X.prog X.w X.K X.mg X.base C3 k f d ps (Et X.K n e)/\Room k X.A/\X.mg x=some (.ref f)/\PySem.W.keepIn X.K (.ref f)=true/\Binds X.K d ps []
def ER.called{K:vE}{H0 Fc F H f g:Hp}{σ:L2.St}{ρ:CF}(R:ER K H0 Fc F H σ ρ)(j:Same H g)(h:Same F f)(l:Same f g)(m:∀a o,f a=some o->F a=some o\/H a=none):ER K H0 Fc f g σ ρ:=
 ⟨l,R.same.trans j,R.base.trans h,λa o e=>(m a o e).elim (R.new a o) λz=>.inr (R.same.free z),λi d e=>by
  obtain⟨v,n,p⟩:=R.env i d e
  exact⟨v,n,p.mono h⟩⟩
def DE.call{x:Str}{p:Pos}{n:Nat}{m:∅}{g:List D}(r:nj X x n m)(s:Gl X x)(h:(x == ("__debug__" : Str))=false)(t:DA X (e::es) ρ g)(u:g.length=n)(z:m g=some w)(A:Bd e=true)(i:es.all Bd=true):
  DE X (.Call (.Name x p) (e::es) [] pos) ρ w:=λB C=>by
 obtain⟨k,f,fd,ps,G,I,J,K,L⟩:=r
 refine PE.mono (kk (E:=E0) G I s J K L .nil iw (t B C) h (Bj A) (fV i)) λσ H Q ⟨F,R,k⟩=>⟨F,R,λvs H1 M N j O=>?_⟩
 refine⟨M,g,w,j.sub,by rw[Kc];exact O,u,z,λv P S T o U V q=>k v P S (N.trans o) (j.called T o U V) ?_⟩
 cases w with
 |val d=>exact q
 |new l=>
  obtain⟨a,Y,Z,b1,b2,b3,b4⟩:=q
  exact⟨a,Y,Z,b1,j.same.free b2,b3,b4⟩
def DT.val{e:Expr}{k:Bool}(h:DF X e ρ (.bl k))(f:∀d,isTrue e X.env d=(do let v <-d;standAt e.pos;holding [v] (truthy v))):DT X e ρ k:=λg i=>
 PT.mono (F8 (h g i) f) λp H Q ⟨F,R,q⟩=>⟨F,R,λv j l m n o=>⟨k,o.bl,q j l m n⟩⟩
def DT.not{k:Bool}(h:DT X a ρ k):DT X (.UnaryOp .Not a pos) ρ (!k):=λd e=>PT.mono (Gs (h d e)) λl H Q ⟨F,R,q⟩=>⟨F,R,λf g i j=>q f g i j⟩
def DW.dt{k:Bool}(h:DW X e ρ k):DT X e ρ k:=λd f=>(h d f).pt
def DW.and1{k:Bool}(h:DT X a ρ k):DW X (.BoolOp .And [a] pos) ρ k:=λd e=>qM (h d e)
def DW.or1{k:Bool}(h:DT X a ρ k):DW X (.BoolOp .Or [a] pos) ρ k:=λd e=>FZ (h d e)
def DW.andT{k:Bool}(h:DT X a ρ true)(f:DW X (.BoolOp .And (b::es) pos) ρ k):DW X (.BoolOp .And (a::b::es) pos) ρ k:=λd e=>PW.mono (mH (h d e) (f d e)) λo H Q ⟨F,R,q⟩=>
 ⟨F,R,λp g i j=>Dm (⟨g,j,λl m n R2=>q l m (i.trans n) R2⟩)⟩
def DW.andF{tb}(h:DT X a ρ false)(d:PW X (.BoolOp .And (b::es) pos) tb):DW X (.BoolOp .And (a::b::es) pos) ρ false:=λe f=>PW.mono (mH (h e f) d) λm H Q ⟨F,R,q⟩=>
 ⟨F,R,λg i j l=>Ds (q g i j l)⟩
def DW.orF{k:Bool}(h:DT X a ρ false)(f:DW X (.BoolOp .Or (b::es) pos) ρ k):DW X (.BoolOp .Or (a::b::es) pos) ρ k:=λd e=>PW.mono (E5 (h d e) (f d e)) λo H Q ⟨F,R,q⟩=>
 ⟨F,R,λp g i j=>Ds (⟨g,j,λl m n R2=>q l m (i.trans n) R2⟩)⟩
def DW.orT{tb}(h:DT X a ρ true)(d:PW X (.BoolOp .Or (b::es) pos) tb):DW X (.BoolOp .Or (a::b::es) pos) ρ true:=λe f=>PW.mono (E5 (h e f) d) λm H Q ⟨F,R,q⟩=>
 ⟨F,R,λg i j l=>Dm (q g i j l)⟩
def nk:PW X e (λ_ _ _=>False):=λ_ _ _ _ _ _ _ h=>h.elim
def iz:PE X e (λ_ _ _=>False):=λ_ _ _ _ _ _ h=>h.elim
def DE.not{k:Bool}(h:DF X a ρ (.bl k)):DE X (.UnaryOp .Not a pos) ρ (.val (.bl (!k))):=λd e=>PE.mono (GH (h d e)) λm H Q ⟨F,R,q⟩=>
 ⟨F,R,λv f g i j l=>⟨k,l.bl,q _ f g i j RW.bl⟩⟩
def DE.one{d}(h:DE X a ρ w):DE X (.BoolOp d [a] pos) ρ w:=λe f=>GG (h e f)
def DE.andT(h:DF X a ρ (.bl true))(f:DE X (.BoolOp .And (b::es) pos) ρ w):DE X (.BoolOp .And (a::b::es) pos) ρ w:=λd e=>PE.mono (mI (h d e) (f d e)) λr H Q ⟨F,R,q⟩=>
 ⟨F,R,λv s g i j l=>⟨true,l.bl,Dm (⟨g,j,λv m n o R2 p=>q v m n (i.trans o) R2 p⟩)⟩⟩
def DE.andF(h:DF X a ρ (.bl false)):DE X (.BoolOp .And (a::b::es) pos) ρ (.val (.bl false)):=λd e=>PE.mono (mI (h d e) iz) λm H Q ⟨F,R,q⟩=>
 ⟨F,R,λv f g i j l=>⟨false,l.bl,Ds (q _ f g i j RW.bl)⟩⟩
def DE.orF(h:DF X a ρ (.bl false))(f:DE X (.BoolOp .Or (b::es) pos) ρ w):DE X (.BoolOp .Or (a::b::es) pos) ρ w:=λd e=>PE.mono (E7 (h d e) (f d e)) λr H Q ⟨F,R,q⟩=>
 ⟨F,R,λv s g i j l=>⟨false,l.bl,Ds (⟨g,j,λv m n o R2 p=>q v m n (i.trans o) R2 p⟩)⟩⟩
def DE.orT(h:DF X a ρ (.bl true)):DE X (.BoolOp .Or (a::b::es) pos) ρ (.val (.bl true)):=λd e=>PE.mono (E7 (h d e) iz) λm H Q ⟨F,R,q⟩=>
 ⟨F,R,λv f g i j l=>⟨true,l.bl,Dm (q _ f g i j RW.bl)⟩⟩
def DE.ifT{c:Expr}(f:DT X c ρ true)(g:DE X a ρ w):DE X (.IfExp c a b pos) ρ w:=λd e=>PE.mono (mJ (f d e) (g d e) iz) λp H Q ⟨F,R,q⟩=>
 ⟨F,R,λr h i j=>Dm (⟨h,j,λv l m n R2 o=>q v l m (i.trans n) R2 o⟩)⟩
def DE.ifF{c:Expr}(f:DT X c ρ false)(g:DE X b ρ w):DE X (.IfExp c a b pos) ρ w:=λd e=>PE.mono (mJ (f d e) iz (g d e)) λp H Q ⟨F,R,q⟩=>
 ⟨F,R,λr h i j=>Ds (⟨h,j,λv l m n R2 o=>q v l m (i.trans n) R2 o⟩)⟩
def bF(X:Cx)(d:CmpOp)(x y:D)(k:Bool):Prop:=∃r,Dk X (compareOp d) r /\
 ∀(H F:Hp) (v u:V) (Q:VK),Same F H->Den X.K F x v->Den X.K F y u->Q (.bl k) H->r v u H Q
def DE.cmp{d:CmpOp}{x y:D}{k:Bool}(g:bF X d x y k)(h:DF X a ρ x)(i:DF X b ρ y)(j:behindInMarks d b=false):DE X (.Compare a [d] [b] pos) ρ (.val (.bl k)):=λe f=>by
 obtain⟨r,l,m⟩:=g
 exact PE.mono (qV l (h e f) (i e f) j) (eS λH F p v u Q R n o q=>m H F v u Q R.sub n o (q _ H F (Same.refl _) R RW.bl))
def DT.cmp{d:CmpOp}{x y:D}{k:Bool}(j:bF X d x y k)(l:DF X a ρ x)(m:DF X b ρ y)(n:behindInMarks d b=false):DT X (.Compare a [d] [b] pos) ρ k:=λe f=>by
 obtain⟨r,o,p⟩:=j
 refine PT.mono (qW o (l e f) (m e f) n) λB H Q ⟨F,R,q⟩=>⟨F,R,λv C s t w z=>⟨s,w,λu g h i R2 A=>?_⟩⟩
 exact p g h v u _ R2.sub (z.mono i) A ⟨k,rfl,q g h (t.trans i) R2⟩
def EL{d:CmpOp}{g:Int->Int->Bool}{x y:Int}(e:Dk X (compareOp d) (Eu λi j=>.bl (g i j))):bF X d (.int x) (.int y) (g x y):=
 ⟨_,e,λH F v u Q s f h q=>⟨x,y,f.int,h.int,q⟩⟩
def HK{x y:Int}:bF X .Lt (.int x) (.int y) (decide (x<y)):=EL I8
def HL{x y:Int}:bF X .LtE (.int x) (.int y) (decide (x<=y)):=EL I9
def cmp_gt{x y:Int}:bF X .Gt (.int x) (.int y) (decide (y<x)):=EL JA
def HM{x y:Int}:bF X .GtE (.int x) (.int y) (decide (y<=x)):=EL JB
def rZ{x y:Int}:bF X .Eq (.int x) (.int y) (decide (x=y)):=⟨_,Fd,λH F v u Q s d e q=>by
 have f:=d.int;have g:=e.int;subst f;subst g;exact⟨rfl,by rw[ip,Vv];exact q⟩⟩
def r4{x y:Int}:bF X .NotEq (.int x) (.int y) (!decide (x=y)):=⟨_,Fb,λH F v u Q s d e q=>by
 have f:=d.int;have g:=e.int;subst f;subst g;exact⟨rfl,by rw[ip,Vv];exact q⟩⟩
def r6{x y:Bool}:bF X .Eq (.bl x) (.bl y) (x == y):=⟨_,Fd,λH F v u Q s d e q=>by
 have f:=d.bl;have g:=e.bl;subst f;subst g;exact⟨rfl,by rw[iq];exact q⟩⟩
def r8{x y:Bool}:bF X .NotEq (.bl x) (.bl y) (!(x == y)):=⟨_,Fb,λH F v u Q s d e q=>by
 have f:=d.bl;have g:=e.bl;subst f;subst g;exact⟨rfl,by rw[iq];exact q⟩⟩
def du:D->Bool
 |.non=>true
 |_=>false
def nq{K:vE}{F:Hp}{d:D}{v:V}(h:Den K F d v):decide (v=V.non)=du d:=by
 cases d with
 |non=>rw[h.non];rfl
 |bl b=>rw[h.bl];rfl
 |int i=>rw[h.int];rfl
 |tup l=>obtain⟨a,f,e,_⟩:=h.tup;rw[e];rfl
 |lst l=>obtain⟨a,f,e,_⟩:=h.lst;rw[e];rfl
 |exc x=>obtain⟨a,C,e,_⟩:=h.exc;rw[e];rfl
 |obj a l=>rw[h.obj.1];rfl
def r9{x:D}:bF X .Is x .non (du x):=⟨_,GL,λH F v u Q s d e q=>⟨e.non,by rw[nq d];exact q⟩⟩
def sd{x:D}:bF X .IsNot x .non (!du x):=⟨_,qU,λH F v u Q s d e q=>⟨e.non,by rw[nq d];exact q⟩⟩
def bV(X:Cx)(f:Value)(m:List D)(w:W):Prop:=∃r,cb X f r /\
 ∀(d h H F:Hp) (i:L2.St) (ρ:CF) (j:List V) (Q:VK),ER X.K d h F H i ρ->DenL X.K F m j->(∀l e g,Same F g->ER X.K d h g e i ρ->RW X.K d g e w l->Q l e)->r j H Q
def DE.blt{x:Str}{id:String}{p:Pos}{g:List D}(j:bV X (.builtin id) g w)(l:Gl X x)(m:X.mg x=none)(n:bootBuiltins x=some (.builtin id))(o:x ≠ "__name__")(d:(x == ("__debug__" : Str))=false)(q:DA X (e::es) ρ g)(s:Bd e=true)(f:es.all Bd=true):
  DE X (.Call (.Name x p) (e::es) [] pos) ρ w:=λh i=>by
 obtain⟨r,t,u⟩:=j
 refine PE.mono (mX t l m n (q h i) o d (Bj s) (fV f)) λv H Q ⟨F,R,k⟩=>⟨F,R,λz A B C E G=>?_⟩
 exact u h i A B v ρ z Q E G λI J K L M N=>k I J K (C.trans L) M N
def DE.ty{x:Str}{id:String}{p:Pos}{g:List D}(j:bV X (.type id) g w)(l:Gl X x)(m:X.mg x=none)(n:bootBuiltins x=some (.type id))(o:x ≠ "__name__")(d:(x == ("__debug__" : Str))=false)(q:DA X (e::es) ρ g)(s:Bd e=true)(f:es.all Bd=true):
  DE X (.Call (.Name x p) (e::es) [] pos) ρ w:=λh i=>by
 obtain⟨r,t,u⟩:=j
 refine PE.mono (rA t l m n (q h i) o d (Bj s) (fV f)) λv H Q ⟨F,R,k⟩=>⟨F,R,λz A B C E G=>?_⟩
 exact u h i A B v ρ z Q E G λI J K L M N=>k I J K (C.trans L) M N
def DenL.one{K:vE}{F:Hp}{d:D}{f:List V}(h:DenL K F [d] f):∃v,f=[v]/\Den K F d v:=by
 obtain⟨v,r,e,q,z⟩:=h.inv_cons
 rw[z.inv_nil] at e;exact⟨v,e,q⟩
def DenL.two{K:vE}{F:Hp}{d g:D}{i:List V}(h:DenL K F [d,g] i):∃v f,i=[v,f]/\Den K F d v/\Den K F g f:=by
 obtain⟨v,r,e,q,z⟩:=h.inv_cons
 obtain⟨f,j,l⟩:=z.one
 rw[j] at e;exact⟨v,f,e,q,l⟩
def se{i:Int}:bV X (.builtin "abs") [.int i] (.val (.int (if i<0 then -i else i))):=⟨_,qX,λd f H F g ρ h Q R q k=>by
 obtain⟨v,e,q⟩:=q.one
 rw[q.int] at e;exact⟨i,e,k _ H F (Same.refl _) R RW.int⟩⟩
def sf{l:List D}:bV X (.builtin "len") [.lst l] (.val (.int l.length)):=⟨_,m6,λh i H F j ρ m Q R q k=>by
 obtain⟨v,e,q⟩:=q.one
 obtain⟨p,d,f,g,r⟩:=q.lst
 rw[f] at e;exact⟨p,d,e,.inl (R.sub.seq g),by rw[r.length];exact k _ H F (Same.refl _) R RW.int⟩⟩
def sg{l:List D}:bV X (.builtin "len") [.tup l] (.val (.int l.length)):=⟨_,m6,λh i H F j ρ m Q R q k=>by
 obtain⟨v,e,q⟩:=q.one
 obtain⟨p,d,f,g,r⟩:=q.tup
 rw[f] at e;exact⟨p,d,e,.inr (Same.tup R.sub g),by rw[r.length];exact k _ H F (Same.refl _) R RW.int⟩⟩
end
open PySem L2 PyProof.Rows
mutual
def lf:D->Bool
 |.non=>true
 |.bl _=>true
 |.int _=>true
 |.tup l=>lfL l
 |.lst _=>false
 |.exc _=>false
 |.obj _ _=>false
def lfL:List D->Bool
 |[]=>true
 |d::l=>lf d && lfL l
end
def lfW:W->Bool
 |.val d=>lf d
 |.new l=>lfL l
mutual
theorem Den.shrink{K:vE}{F i:Hp}(s:∀a g,SqT K F a g->SqT K i a g):∀(d:D){v:V},lf d=true->Den K F d v->Den K i d v
 |.non,_,_,h=>by simpa only[Den] using h
 |.bl _,_,_,h=>by simpa only[Den] using h
 |.int _,_,_,h=>by simpa only[Den] using h
 |.tup l,_,f,h=>by
  obtain⟨a,g,e,q,r⟩:=h.tup
  subst e;exact Den.tup_mk (s _ _ q) (DenL.shrink s l (by simpa only[lf] using f) r)
 |.lst l,_,f,h=>by simp only[lf] at f;cases f
 |.exc l,_,f,h=>by simp only[lf] at f;cases f
 |.obj _ _,_,f,h=>by simp only[lf] at f;cases f
theorem DenL.shrink{K:vE}{F i:Hp}(s:∀a g,SqT K F a g->SqT K i a g):∀(l:List D){g:List V},lfL l=true->DenL K F l g->DenL K i l g
 |[],_,_,h=>by simpa only[DenL] using h
 |d::l,_,f,h=>by
  simp only[lfL,Zl] at f;obtain⟨v,j,e,q,r⟩:=h.inv_cons
  subst e;exact DenL.cons (Den.shrink s d f.1 q) (DenL.shrink s l f.2 r)
end
inductive B where
 |sh (d:D)|ow (l:List D)
def B.d:B->D
 |.sh d=>d
 |.ow l=>.lst l
def W.b:W->B
 |.val d=>.sh d
 |.new l=>.ow l
abbrev CB:=List (Option B)
def view(e:CB):CF:=e.map (Option.map B.d)
def frz(e:CB):CB:=e.map (Option.map λb=>.sh b.d)
def sj{e:CB}{i:Nat}{d:D}(h:(view e)[i]? = some (some d)):∃b,e[i]? = some (some b)/\b.d=d:=by
 unfold view at h;rw[Zm] at h;cases q:e[i]? with
 |none=>rw[q] at h;cases h
 |some o=>
  rw[q] at h;cases o with
  |none=>cases h
  |some b=>exact⟨b,rfl,by simpa using h⟩
def iA{e:CB}{i:Nat}{b:B}(h:(frz e)[i]? = some (some b)):∃c,e[i]? = some (some c)/\b=.sh c.d:=by
 unfold frz at h;rw[Zm] at h;cases q:e[i]? with
 |none=>rw[q] at h;cases h
 |some o=>
  rw[q] at h;cases o with
  |none=>cases h
  |some c=>exact⟨c,rfl,by simpa using h.symm⟩
structure SR(K:vE)(H0 Fc F H:Hp)(σ:L2.St)(ρ:CB):Prop where
 sub:Same F H
 same:Same H0 H
 base:Same Fc F
 new:∀a o,F a=some o->Fc a=some o\/H0 a=none
 env:∀(i:Nat) d,ρ[i]? = some (~~~d)->∃v,σ[i]? = some (some v)/\Den K F d v
 own:∀(i:Nat) l,ρ[i]? = some (some (.ow l))->∃a xs,σ[i]? = some (some (.ref a))/\F a=none/\H0 a=none/\H a=some (.lst xs)/\DenL K F l xs
 dis:∀(i j:Nat) l m a,ρ[i]? = some (some (.ow l))->ρ[j]? = some (some (.ow m))->σ[i]? = some (some (.ref a))->σ[j]? = some (some (.ref a))->i=j
 len:σ.length=ρ.length
def Owned(d:L2.St)(e:CB)(a:Addr):Prop:=∃(i:Nat) (l:List D),e[i]? = some (some (.ow l))/\d[i]? = some (some (.ref a))
section
variable{K:vE}{H0 Fc F H:Hp}{σ:L2.St}{ρ:CB}
def SR.owned_none(S:SR K H0 Fc F H σ ρ){a:Addr}(h:Owned σ ρ a):F a=none/\H0 a=none/\∃d,H a=some (.lst d):=by
 obtain⟨i,l,f,g⟩:=h
 obtain⟨b,d,e,p,q,r,_⟩:=S.own i l f
 rw[g] at e;cases e;exact⟨p,q,d,r⟩
open Classical in
def borrow(F H:Hp)(σ:L2.St)(ρ:CB):Hp:=λa=>if Owned σ ρ a then H a else F a
open Classical in
theorem SR.borrow(S:SR K H0 Fc F H σ ρ):Same F (borrow F H σ ρ)/\ER K H0 Fc (borrow F H σ ρ) H σ (view ρ):=by
 have s:Same F (DL.borrow F H σ ρ):=λa o e=>by
  unfold DL.borrow;rw[if_neg (λz=>by rw[(S.owned_none z).1] at e;cases e)];exact e
 refine⟨s,⟨λa o e=>?_,S.same,S.base.trans s,λa o e=>?_,λi d e=>?_⟩⟩
 ·unfold DL.borrow at e;by_cases f:Owned σ ρ a
  ·rw[if_pos f] at e;exact e
  ·rw[if_neg f] at e;exact S.sub a o e
 ·unfold DL.borrow at e;by_cases f:Owned σ ρ a
  ·exact .inr (S.owned_none f).2.1
  ·rw[if_neg f] at e;exact S.new a o e
 ·obtain⟨b,g,h⟩:=sj e
  subst h;cases b with
  |sh d=>
   obtain⟨v,p,q⟩:=S.env i d g
   exact⟨v,p,q.mono s⟩
  |ow l=>
   obtain⟨a,j,p,_,_,r,q⟩:=S.own i l g
   refine⟨_,p,Den.lst_mk (SqL.of ?_) (q.mono s)⟩
   unfold DL.borrow;rw[if_pos ⟨i,l,g,p⟩];exact r
open Classical in
theorem SR.back(S:SR K H0 Fc F H σ ρ){j B:Hp}{w:W}{v:V}(s:Same (DL.borrow F H σ ρ) j)(R:ER K H0 Fc j B σ (view ρ))(q:RW K H0 j B w v)(f:lfW w=true):
  ∃D,Same F D/\SR K H0 Fc D B σ ρ/\RW K H0 D B w v:=by
 have A:∀{a},Owned σ ρ a->∃m,j a=some (.lst m):=λ{a} z=>by
  obtain⟨_,_,m,r⟩:=S.owned_none z
  exact⟨m,s a _ (by unfold DL.borrow;rw[if_pos z];exact r)⟩
 have C:Same F (λa=>if Owned σ ρ a then none else j a):=λa o e=>by
  have g:¬Owned σ ρ a:=λz=>by rw[(S.owned_none z).1] at e;cases e
  show(if Owned σ ρ a then none else j a)=some o;rw[if_neg g];exact s a o (S.borrow.1 a o e)
 have t:∀a o,(if Owned σ ρ a then none else j a)=some o->j a=some o:=λa o e=>by
  by_cases g:Owned σ ρ a
  ·rw[if_pos g] at e;cases e
  ·rw[if_neg g] at e;exact e
 have u:∀a m,SqT K j a m->SqT K (λa=>if Owned σ ρ a then none else j a) a m:=λa m h=>by
  rcases h with h|h
  ·refine .inl ?_;have g:¬Owned σ ρ a:=λz=>by
    obtain⟨L,e⟩:=A z
    rcases h with h|⟨o,h⟩
    ·rw[e] at h;cases h
    ·rw[e] at h;cases h
   rcases h with h|⟨o,h⟩
   ·exact .inl (by show(if Owned σ ρ a then none else j a)=_;rw[if_neg g];exact h)
   ·exact .inr ⟨o,by show(if Owned σ ρ a then none else j a)=_;rw[if_neg g];exact h⟩
  ·exact .inr h
 refine⟨_,C,⟨λa o e=>R.sub a o (t a o e),R.same,S.base.trans C,λa o e=>R.new a o (t a o e),λi d e=>?_,λi l e=>?_,S.dis,S.len⟩,?_⟩
 ·obtain⟨v,p,q⟩:=S.env i d e
  exact⟨v,p,q.mono C⟩
 ·obtain⟨a,m,p,J,E,G,I⟩:=S.own i l e
  have g:Owned σ ρ a:=⟨i,l,e,p⟩;refine⟨a,m,p,if_pos g,E,?_,I.mono C⟩
  exact R.sub _ _ (s a _ (by unfold DL.borrow;rw[if_pos g];exact G))
 ·cases w with
  |val d=>exact Den.shrink u d f q
  |new l=>
   obtain⟨a,m,e,J,E,G,I⟩:=q
   subst e;refine RW.n ?_ E G (DenL.shrink u l f I);by_cases g:Owned σ ρ a
   ·exact if_pos g
   ·exact(if_neg g).trans J
def SR.freeze(S:SR K H0 Fc F H σ ρ){g n:Hp}(s:Same (DL.borrow F H σ ρ) g)(R:ER K H0 Fc g n σ (view ρ)):Same F g/\SR K H0 Fc g n σ (frz ρ):=by
 refine⟨S.borrow.1.trans s,R.sub,R.same,R.base,R.new,λi d e=>?_,λi l e=>?_,λi j l m a e=>?_,?_⟩
 ·obtain⟨c,h,f⟩:=iA e
  cases f;refine R.env i c.d ?_;unfold view;rw[Zm,h];rfl
 ·obtain⟨c,h,f⟩:=iA e
  cases f
 ·obtain⟨c,h,f⟩:=iA e
  cases f
 ·rw[S.len];unfold frz;rw[Zc]
def after(w:W)(ρ:CB):CB:=if lfW w=true then ρ else frz ρ
theorem SR.after(S:SR K H0 Fc F H σ ρ){d e:Hp}{w:W}{v:V}(s:Same (DL.borrow F H σ ρ) d)(R:ER K H0 Fc d e σ (view ρ))(q:RW K H0 d e w v):
  ∃g,Same F g/\SR K H0 Fc g e σ (DL.after w ρ)/\RW K H0 g e w v:=by
 unfold DL.after;by_cases f:lfW w=true
 ·rw[if_pos f];exact S.back s R q f
 ·rw[if_neg f];obtain⟨a,b⟩:=S.freeze s R
  exact⟨d,a,b,q⟩
def SR.bind(S:SR K H0 Fc F H σ ρ){i:Nat}{w:W}{v:V}(q:RW K H0 F H w v)(D:i<ρ.length)(E:∀l,w=.new l->∀a,v=.ref a -> ¬Owned σ ρ a):SR K H0 Fc F H (σ.set i (some v)) (ρ.set i (some w.b)):=by
 have u:i<σ.length:=by rw[S.len];exact D
 have z:(σ.set i (some v))[i]? = some (some v):=by rw[Ya u]
 have A:(ρ.set i (some w.b))[i]? = some (some w.b):=by rw[Ya D]
 have o:∀{j},j≠i->(σ.set i (some v))[j]? = σ[j]?:=λh=>Z7 (Wz h)
 have p:∀{j},j≠i->(ρ.set i (some w.b))[j]? = ρ[j]?:=λh=>Z7 (Wz h)
 refine⟨S.sub,S.same,S.base,S.new,λj d e=>?_,λj l e=>?_,λj k l m a g r s t=>?_,by rw[Wq,Wq];exact S.len⟩
 ·by_cases f:j=i
  ·subst f;rw[A] at e;refine⟨v,z,?_⟩
   cases w with
   |val C=>cases e;exact q
   |new l=>cases e
  ·rw[p f] at e;rw[o f];exact S.env j d e
 ·by_cases f:j=i
  ·subst f;rw[A] at e;cases w with
   |val C=>cases e
   |new B=>
    cases e;obtain⟨a,G,g,I,J,L,M⟩:=q
    subst g;exact⟨a,G,z,I,J,L,M⟩
  ·rw[p f] at e;rw[o f];exact S.own j l e
 ·by_cases f:j=i
  ·by_cases n:k=i
   ·rw[f,n]
   ·subst f;rw[A] at g;rw[z] at s;rw[p n] at r;rw[o n] at t;cases w with
    |val C=>cases g
    |new B=>cases s;exact absurd ⟨k,m,r,t⟩ (E B rfl a rfl)
  ·by_cases n:k=i
   ·subst n;rw[A] at r;rw[z] at t;rw[p f] at g;rw[o f] at s;cases w with
    |val C=>cases r
    |new B=>cases t;exact absurd ⟨j,l,g,s⟩ (E B rfl a rfl)
   ·rw[p f] at g;rw[o f] at s;rw[p n] at r;rw[o n] at t;exact S.dis j k l m a g r s t
def Owned.not_after(S:SR K H0 Fc F H σ ρ){g o:Hp}{w:W}{v:V}(s:Same (DL.borrow F H σ ρ) g)(q:RW K H0 g o w v):∀l,w=.new l->∀a,v=.ref a -> ¬Owned σ (DL.after w ρ) a:=λl e a ev z=>by
 subst e;obtain⟨b,u,j,p,_⟩:=q
 rw[ev] at j;cases j;obtain⟨i,m,d,t⟩:=z
 unfold DL.after at d;by_cases f:lfW (.new l)=true
 ·rw[if_pos f] at d;have n:Owned σ ρ a:=⟨i,m,d,t⟩;obtain⟨_,_,A,r⟩:=S.owned_none n
  have:=s a _ (by unfold DL.borrow;rw[if_pos n];exact r)
  rw[p] at this;cases this
 ·rw[if_neg f] at d;obtain⟨c,_,h⟩:=iA d
  cases h
def SR.mut(S:SR K H0 Fc F H σ ρ){i:Nat}{l m:List D}{a:Addr}{g:List V}(h:ρ[i]? = some (some (.ow l)))(n:σ[i]? = some (some (.ref a)))(q:DenL K F m g):SR K H0 Fc F (upd H a (.lst g)) σ (ρ.set i (some (.ow m))):=by
 have w:Owned σ ρ a:=⟨i,l,h,n⟩;obtain⟨s,t,W,X⟩:=S.owned_none w
 have A:i<ρ.length:=(Zi.mp h).1;have u:(ρ.set i (some (.ow m)))[i]? = some (some (.ow m)):=by rw[Ya A]
 have r:∀{j},j≠i->(ρ.set i (some (.ow m)))[j]? = ρ[j]?:=λh=>Z7 (Wz h)
 have v:∀{j:Nat}{k:List D},(ρ.set i (some (B.ow m)))[j]? = some (some (B.ow k))->∃C:List D,ρ[j]? = some (some (B.ow C)):=λ{j k} e=>by
  by_cases f:j=i
  ·subst f;exact⟨l,h⟩
  ·rw[r f] at e;exact⟨k,e⟩
 refine⟨λb o e=>?_,λb o e=>?_,S.base,S.new,λj d e=>?_,λj k e=>?_,λj k p Y b E G I J=>?_,by rw[Wq];exact S.len⟩
 ·rw[Bg (λz=>by subst z;rw[s] at e;cases e)];exact S.sub b o e
 ·rw[Bg (λz=>by subst z;rw[t] at e;cases e)];exact S.same b o e
 ·by_cases f:j=i
  ·subst f;rw[u] at e;cases e
  ·rw[r f] at e;exact S.env j d e
 ·by_cases f:j=i
  ·subst f;rw[u] at e;cases e;exact⟨a,g,n,s,t,Bh,q⟩
  ·rw[r f] at e;obtain⟨b,L,p,M,N,O,P⟩:=S.own j k e
   refine⟨b,L,p,M,N,?_,P⟩
   rw[Bg (λz=>by subst z;exact f (S.dis j i k l b e h p n))];exact O
 ·obtain⟨Q,R⟩:=v E
  obtain⟨T,U⟩:=v G
  exact S.dis j k Q T b R U I J
end
inductive Out where
 |nx (ρ:CB)|rt (w:W)
structure RT(H0 Fc F H:Hp):Prop where
 sub:Same F H
 same:Same H0 H
 base:Same Fc F
 new:∀a o,F a=some o->Fc a=some o\/H0 a=none
def tS(K:vE)(g h:Hp)(j:CB)(o:Out):TS:=λD l H=>∃F,SR K g h F H l j/\match o with
 |.nx i=>∀e d f,Same F f->SR K g h f d e i->D.nx e d
 |.rt w=>∀v d f,RT g h f d->RW K g f d w v->D.rt v d
def DS(X:Cx)(s:Stmt)(d:CB)(o:Out):Prop:=∀e f,PS X s (tS X.K e f d o)
def DSs(X:Cx)(s:List Stmt)(d:CB)(o:Out):Prop:=∀e f,PSs X s (tS X.K e f d o)
section
variable{X:Cx}{st:Stmt}{rest:List Stmt}{ρ ρ':CB}{o:Out}{w:W}{e:Expr}{pos:Pos}
def DSs.nil:DSs X [] ρ (.nx ρ):=λe f=>PSs.mono mK λD d H ⟨F,S,k⟩=>k d H F (Same.refl _) S
def DSs.next(g:DS X st ρ (.nx ρ'))(h:DSs X rest ρ' o):DSs X (st::rest) ρ o:=λe f=>PSs.mono (Bz (g e f) (h e f)) λD t H ⟨F,S,k⟩=>
 ⟨F,S,λi u j l m=>⟨j,m,by
  cases o with
  |nx n=>exact λd p q r s=>k d p q (l.trans r) s
  |rt w=>exact k⟩⟩
def DSs.ret(d:DS X st ρ (.rt w)):DSs X (st::rest) ρ (.rt w):=λe f=>PSs.mono (Bz (d e f) j9) λD g H ⟨F,S,k⟩=>⟨F,S,k⟩
def DS.asg{i:Nat}{x:Str}{d:Pos}(h:X.N.Nodup)(j:X.N[i]? = some x)(l:Loc X.env.scope x)(m:X.fn x=true\/X.env.scope.names.lookup x=some .local)(n:swapsWith e (some (.Name x d)) pos.line X.env=pure false)(o:i<ρ.length)
 (p:DE X e (view ρ) w):DS X (.Assign [.Name x d] e pos) ρ (.nx ((after w ρ).set i (some w.b))):=λr s=>PS.mono (eP h j l (p r s) n m) λD B H ⟨F,S,k⟩=>by
 obtain⟨C,R⟩:=S.borrow
 refine⟨_,R,λv t E f R2 q=>?_⟩
 obtain⟨u,z,g,A⟩:=S.after f R2 q
 refine k _ t u z (g.bind A ?_ (Owned.not_after S f q));rw[<-g.len,S.len];exact o
def DS.ret(d:DE X e (view ρ) w):DS X (.Return (some e) pos) ρ (.rt w):=λf g=>PS.mono (ig (d f g)) λD j H ⟨F,S,k⟩=>by
 obtain⟨l,R⟩:=S.borrow
 exact⟨_,R,λv h i m R2 q=>k v h i ⟨R2.sub,R2.same,R2.base,R2.new⟩ q⟩
def DS.retOwn{i:Nat}{x:Str}{l:List D}{p:Pos}(e:X.N[i]? = some x)(f:DX X.env.scope x)(g:(x == ("__debug__" : Str))=false)(d:(x == ("__classdict__" : Str))=false)(h:ρ[i]? = some (some (.ow l))):
  DS X (.Return (some (.Name x p)) pos) ρ (.rt (.new l)):=λr s=>PS.mono (ig (bA e f g d)) λD t H ⟨F,S,k⟩=>by
 obtain⟨a,u,p,j,m,o,q⟩:=S.own i l h
 exact⟨_,p,k _ H F ⟨S.sub,S.same,S.base,S.new⟩ (RW.n j m o q)⟩
def SR.tested{K:vE}{H0 Fc F H:Hp}{σ:L2.St}(S:SR K H0 Fc F H σ ρ){e f:Hp}(s:Same (DL.borrow F H σ ρ) e)(R:ER K H0 Fc e f σ (view ρ)):∃d,Same F d/\SR K H0 Fc d f σ ρ:=by
 obtain⟨d,a,b,_⟩:=S.back (w:=.val .non) (v:=.non) s R (RW.v Den.non_mk) rfl
 exact⟨d,a,b⟩
def tS.pre{K:vE}{f h F i H j:Hp}{l:L2.St}{g:CB}{D:Ends}(s:Same F i)(m:SR K f h i j l g)
 (k:match o with|.nx ρ'=>∀σ' d e,Same F e->SR K f h e d σ' ρ'->D.nx σ' d|.rt w=>∀v d e,RT f h e d->RW K f e d w v->D.rt v d):tS K f h g o D l j:=⟨i,m,by
 cases o with
 |nx ρ'=>exact λσ' d e n p=>k σ' d e (s.trans n) p
 |rt w=>exact k⟩
def DS.ifT{c:Expr}{a b:List Stmt}(f:DT X c (view ρ) true)(g:DSs X a ρ o):DS X (.If c a b pos) ρ o:=λd e=>PS.mono (j8 (f d e) (g d e) j9) λD l H ⟨F,S,k⟩=>by
 obtain⟨m,R⟩:=S.borrow
 refine⟨_,R,λn p h R2=>Dm ?_⟩
 obtain⟨q,i,j⟩:=S.tested h R2
 exact tS.pre (H:=H) i j k
def DS.ifF{c:Expr}{a b:List Stmt}(f:DT X c (view ρ) false)(g:DSs X b ρ o):DS X (.If c a b pos) ρ o:=λd e=>PS.mono (j8 (f d e) j9 (g d e)) λD l H ⟨F,S,k⟩=>by
 obtain⟨m,R⟩:=S.borrow
 refine⟨_,R,λn p h R2=>Ds ?_⟩
 obtain⟨q,i,j⟩:=S.tested h R2
 exact tS.pre (H:=H) i j k
def bE(c:CB->Option Bool)(b:CB->Option Out):Nat->CB->Option Out
 |0,_=>none
 |n+1,ρ=>match c ρ with
  |none=>none
  |some false=>some (.nx ρ)
  |some true=>match b ρ with
   |none=>none
   |some (.rt w)=>some (.rt w)
   |some (.nx ρ')=>bE c b n ρ'
def DS.while_{c:Expr}{d:List Stmt}{t:CB->Option Bool}{u:CB->Option Out}{n:Nat}(U:PassesOwn (model X.prog X.w) X.A X.env X.xe)(V:∀ρ k,t ρ=some k->DT X c (view ρ) k)(W:∀ρ o,u ρ=some o->DSs X d ρ o)
 (Y:bE t u n ρ=some o):DS X (.While c d [] pos) ρ o:=λp r=>by
 have Z:PT X c (λl H Q=>∃ρ k,t ρ=some k/\LN X.K p r (view ρ) k l H Q):=λpins s l H Q I ⟨ρ,k,h,q⟩=>V ρ k h p r pins s l H Q I q
 have pb:PSs X d (λD l H=>∃ρ o,u ρ=some o/\tS X.K p r ρ o D l H):=λpins s l H D I ⟨ρ,o,h,q⟩=>W ρ o h p r pins s l H D I q
 refine PS.mono (mN U Z pb) λD l H ⟨F,S,k⟩=>?_;refine⟨λm f v=>∃ρ' j,Same F j/\SR X.K p r j v f ρ'/\bE t u m ρ'=some o,⟨n,ρ,F,Same.refl _,S,Y⟩,?_⟩
 rintro m E H1 ⟨g,F1,N,O,i⟩
 cases m with
 |zero=>cases i
 |succ m=>
  unfold bE at i;cases e:t g with
  |none=>rw[e] at i;cases i
  |some P=>
   rw[e] at i;obtain⟨s0,R⟩:=O.borrow
   refine⟨g,P,e,_,R,λH2 F2 s2 R2=>?_⟩
   obtain⟨G,T,J⟩:=O.tested s2 R2
   cases P with
   |false=>
    refine Ds ?_;cases i;exact k E H2 G (N.trans T) J
   |true=>
    refine Dm ?_;cases C:u g with
    |none=>simp only[C] at i;cases i
    |some o2=>
     simp only[C] at i;cases o2 with
     |rt w=>
      cases i;exact⟨λ_ _=>False,λ_ _ z=>z.elim,g,_,C,G,J,k⟩
     |nx B=>
      refine⟨λf v=>∃j,Same F j/\SR X.K p r j v f B,λf v ⟨j,L,M⟩=>⟨m,Ww _,B,j,L,M,i⟩,g,_,C,G,J,?_⟩
      exact λf v j L M=>⟨j,(N.trans T).trans L,M⟩
end
open PySem L2 PyProof.Rows
section
variable{K:vE}{H0 Fc F H:Hp}{σ:L2.St}{ρ:CB}
def SR.lay(S:SR K H0 Fc F H σ ρ){a:Addr}(o:HO)(g:H a=none):SR K H0 Fc (upd F a o) (upd H a o) σ ρ/\Same F (upd F a o):=by
 have m:F a=none:=by
  cases q:F a with
  |none=>rfl
  |some u=>rw[S.sub a u q] at g;cases g
 have n:H0 a=none:=S.same.free g;have h:=bU (o:=o) m;refine⟨⟨λb u e=>?_,S.same.trans (bU g),S.base.trans h,λb u e=>?_,λi d e=>?_,λi l e=>?_,S.dis,S.len⟩,h⟩
 ·by_cases f:b=a
  ·subst f;rw[Bh] at e |-;exact e
  ·rw[Bg f] at e |-;exact S.sub b u e
 ·by_cases f:b=a
  ·subst f;exact .inr n
  ·rw[Bg f] at e;exact S.new b u e
 ·obtain⟨v,r,s⟩:=S.env i d e
  exact⟨v,r,s.mono h⟩
 ·obtain⟨b,t,p,w,A,j,B⟩:=S.own i l e
  have f:b≠a:=λz=>by subst z;rw[j] at g;cases g
  exact⟨b,t,p,by rw[Bg f];exact w,A,by rw[Bg f];exact j,B.mono h⟩
def SR.frz1(S:SR K H0 Fc F H σ ρ){a:Addr}{g:List V}(j:F a=none)(m:H0 a=none)(n:H a=some (.lst g))(q:¬Owned σ ρ a):SR K H0 Fc (upd F a (.lst g)) H σ ρ/\Same F (upd F a (.lst g)):=by
 have h:=bU (o:=.lst g) j;refine⟨⟨λb u e=>?_,S.same,S.base.trans h,λb u e=>?_,λi d e=>?_,λi l e=>?_,S.dis,S.len⟩,h⟩
 ·by_cases f:b=a
  ·subst f;rw[Bh] at e;cases e;exact n
  ·rw[Bg f] at e;exact S.sub b u e
 ·by_cases f:b=a
  ·subst f;exact .inr m
  ·rw[Bg f] at e;exact S.new b u e
 ·obtain⟨v,r,s⟩:=S.env i d e
  exact⟨v,r,s.mono h⟩
 ·obtain⟨b,t,p,w,A,B,C⟩:=S.own i l e
  have f:b≠a:=λz=>by subst z;exact q ⟨i,l,e,p⟩
  exact⟨b,t,p,by rw[Bg f];exact w,A,B,C.mono h⟩
def SR.afterF(S:SR K H0 Fc F H σ ρ){g h:Hp}{w:W}{v:V}(s:Same (DL.borrow F H σ ρ) g)(R:ER K H0 Fc g h σ (view ρ))(q:RW K H0 g h w v):
  ∃f,Same F f/\SR K H0 Fc f h σ (DL.after w ρ)/\Den K f w.d v:=by
 have o:=Owned.not_after S s q;obtain⟨f,i,j,m⟩:=S.after s R q
 cases w with
 |val d=>exact⟨f,i,j,m⟩
 |new l=>
  obtain⟨a,A,e,p,r,t,u⟩:=m
  subst e;obtain⟨z,n⟩:=j.frz1 p r t (o l rfl a rfl)
  exact⟨_,i.trans n,z,Den.lst_mk (SqL.of Bh) (u.mono n)⟩
end
def PG.mono{X:Cx}{f:Expr}{t g:TG}(h:PG X f t)(k:∀v d H Q,g v d H Q->t v d H Q):PG X f g:=λe s d H v u Q I r q=>h e s d H v u Q I r (k v d H Q q)
def PGs.mono{X:Cx}{f:List Expr}{t g:Fs}(h:PGs X f t)(k:∀v d H Q,g v d H Q->t v d H Q):PGs X f g:=λe s d H v u Q I r q=>h e s d H v u Q I r (k v d H Q q)
def PI.mono{X:Cx}{f g:Expr}{t i:TI}(h:PI X f g t)(k:∀d H R,i d H R->t d H R):PI X f g i:=λe s d H R I q=>h e s d H R I (k d H R q)
def DG(X:Cx)(i:Expr)(d:D)(j f:CB):Prop:=∀g h,PG X i (λv l H Q=>∃F,SR X.K g h F H l j/\Den X.K F d v/\∀e,SR X.K g h F H e f->Q e H)
def DGs(X:Cx)(h:List Expr)(i:List D)(j e:CB):Prop:=∀f g,PGs X h (λl m H Q=>∃F,SR X.K f g F H m j/\DenL X.K F i l/\∀d,SR X.K f g F H d e->Q d H)
section
variable{X:Cx}{st:Stmt}{rest:List Stmt}{ρ ρ' ρ2:CB}{o:Out}{w:W}{e t:Expr}{ts es:List Expr}{pos:Pos}{d:D}{ds:List D}
def SR.bindS{K:vE}{H0 Fc F H:Hp}{σ:L2.St}(S:SR K H0 Fc F H σ ρ){i:Nat}{v:V}(q:Den K F d v)(f:i<ρ.length):SR K H0 Fc F H (σ.set i (some v)) (ρ.set i (~~~d)):=
 S.bind (w:=.val d) (RW.v q) f λl e=>by cases e
def DG.name{i:Nat}{x:Str}(e:X.N.Nodup)(f:X.N[i]? = some x)(g:Loc X.env.scope x)(h:X.fn x=true\/X.env.scope.names.lookup x=some .local)(j:i<ρ.length):DG X (.Name x pos) d ρ (ρ.set i (~~~d)):=λl m=>
 PG.mono (fR e f g h) λv n H Q ⟨F,S,q,k⟩=>k _ (S.bindS q j)
def DGs.nil:DGs X [] [] ρ ρ:=λe f=>PGs.mono ka λg d H Q ⟨F,S,q,k⟩=>⟨q.inv_nil,k d S⟩
def iC{env:Env}(h:Bd t=true):assignEach (t::ts) env=(false,assign t env)::assignEach ts env:=by
 cases t<;>first|rfl|(cases h;done)
theorem fW{env:Env}:∀{ts:List Expr},ts.all Bd=true->(assignEach ts env).length=ts.length/\(assignEach ts env).findIdx? (·.1)=none
 |[],_=>⟨rfl,rfl⟩
 |t::ts,h=>by
  rw[W7,Zl] at h;obtain⟨a,b⟩:=fW (env:=env) h.2
  rw[iC h.1];refine⟨by rw[Zw,a,Zw],?_⟩
  rw[List.findIdx?_cons,b];rfl
def DGs.cons(h:DG X t d ρ ρ')(i:DGs X ts ds ρ' ρ2)(j:Bd t=true):DGs X (t::ts) (d::ds) ρ ρ2:=λf g=>
 PGs.mono (ij (h f g) (i f g) (by rw[iC j];rfl)) λp s H Q ⟨F,S,q,k⟩=>by
  obtain⟨v,r,e,l,m⟩:=q.inv_cons
  exact⟨v,r,e,F,S,l,λn o=>⟨F,o,m,k⟩⟩
theorem DG.tup{k}(f:X.calm=true)(h:DGs X ts ds ρ ρ')(d:ts.all Bd=true)(g:ds.length=ts.length):DG X (.Tuple ts k pos) (.tup ds) ρ ρ':=λi j=>
 PG.mono (kb (n:=ts.length) f (h i j) (fW d).1 (fW d).2) λv o H Q ⟨F,S,q,k⟩=>by
  obtain⟨a,l,e,m,r⟩:=q.tup
  exact⟨a,l,e,Same.tup S.sub m,by rw[r.length];exact g,F,S,r,k⟩
def DS.asgT(l:DE X e (view ρ) w)(m:DG X t w.d (after w ρ) ρ')(n:swapsWithSole [t] e pos.line X.env=pure false)(o:swappedStores [t] e X.env=pure none)(f:Bd t=true):DS X (.Assign [t] e pos) ρ (.nx ρ'):=λh i=>
 PS.mono (mM (l h i) (m h i) n o (by rw[iC f];rfl)) λD B H ⟨F,S,k⟩=>by
  obtain⟨C,R⟩:=S.borrow
  refine⟨_,R,λv p E r R2 q=>?_⟩
  obtain⟨j,s,u,z⟩:=S.afterF r R2 q
  exact⟨j,u,z,λg A=>k g p j s A⟩
def sk{K:vE}{E G F H:Hp}{g:L2.St}(S:SR K E G F H g ρ){j J:Hp}{u:List V}(s:Same (DL.borrow F H g ρ) j)(R:ER K E G j J g (view ρ))(q:DenL K j ds u)(f:lfL ds=true):
  ∃w,Same F w/\SR K E G w J g ρ/\DenL K w ds u:=by
 induction ds generalizing u with
 |nil=>
  obtain⟨w,a,b⟩:=S.tested s R
  rw[q.inv_nil];exact⟨w,a,b,DenL.nil⟩
 |cons d ds Q=>
  classical
  have key:∀(d:D) (v:V),lf d=true->Den K j d v->Den K (λa=>if Owned g ρ a then none else j a) d v:=λd v f q=>by
   have A:∀a m,SqT K j a m->SqT K (λa=>if Owned g ρ a then none else j a) a m:=λa m h=>by
    rcases h with h|h
    ·refine .inl ?_;have n:¬Owned g ρ a:=λz=>by
      obtain⟨_,_,T,r⟩:=S.owned_none z
      have e:=s a _ (by unfold DL.borrow;rw[if_pos z];exact r);rcases h with h|⟨o,h⟩
      ·rw[e] at h;cases h
      ·rw[e] at h;cases h
     rcases h with h|⟨o,h⟩
     ·exact .inl (by show(if Owned g ρ a then none else j a)=_;rw[if_neg n];exact h)
     ·exact .inr ⟨o,by show(if Owned g ρ a then none else j a)=_;rw[if_neg n];exact h⟩
    ·exact .inr h
   exact Den.shrink A d f q
  have B:∀(l:List D) (m:List V),lfL l=true->DenL K j l m->DenL K (λa=>if Owned g ρ a then none else j a) l m:=λl=>by
   induction l with
   |nil=>intro m _ q;rw[q.inv_nil];exact DenL.nil
   |cons d l I=>
    intro m f q;simp only[lfL,Zl] at f;obtain⟨v,u,e,L,M⟩:=q.inv_cons
    subst e;exact DenL.cons (key d v f.1 L) (I u f.2 M)
  have C:Same F (λa=>if Owned g ρ a then none else j a):=λa o e=>by
   have n:¬Owned g ρ a:=λz=>by rw[(S.owned_none z).1] at e;cases e
   show(if Owned g ρ a then none else j a)=some o;rw[if_neg n];exact s a o (S.borrow.1 a o e)
  have t:∀a o,(if Owned g ρ a then none else j a)=some o->j a=some o:=λa o e=>by
   by_cases n:Owned g ρ a
   ·rw[if_pos n] at e;cases e
   ·rw[if_neg n] at e;exact e
  refine⟨_,C,⟨λa o e=>R.sub a o (t a o e),R.same,S.base.trans C,λa o e=>R.new a o (t a o e),λi d e=>?_,λi l e=>?_,S.dis,S.len⟩,B _ _ f q⟩
  ·obtain⟨v,p,q⟩:=S.env i d e
   exact⟨v,p,q.mono C⟩
  ·obtain⟨a,m,p,U,N,O,P⟩:=S.own i l e
   have n:Owned g ρ a:=⟨i,l,e,p⟩;refine⟨a,m,p,if_pos n,N,?_,P.mono C⟩
   exact R.sub _ _ (s a _ (by unfold DL.borrow;rw[if_pos n];exact O))
def DS.par{i j:Nat}{x y:Str}{a b:Expr}{l m n:Pos}{o p d}{d1 d2:D}(r:X.calm=true)(s:X.N.Nodup)(t:X.N[i]? = some x)(w:X.N[j]? = some y)(f:i≠j)
 (z:X.env.scope.names.lookup x=some .local)(A:X.env.scope.names.lookup y=some .local)(B:DA X [a,b] (view ρ) [d1,d2])(g:i<ρ.length)(h:j<ρ.length)(C:lf d1=true)(E:lf d2=true)
 (G:swappedStores [.Tuple [.Name x l,.Name y m] o n] (.Tuple [a,b] p d) X.env=pure (some [x,y])):
  DS X (.Assign [.Tuple [.Name x l,.Name y m] o n] (.Tuple [a,b] p d) pos) ρ (.nx ((ρ.set i (~~~d1)).set j (~~~d2))):=λI J=>
 PS.mono (GB r s t w f z A (B I J) G (by rfl)) λD V H ⟨F,S,k⟩=>by
  obtain⟨W,R⟩:=S.borrow
  refine⟨_,R,λY K Z L R2 q=>?_⟩
  obtain⟨M,O,P,Q⟩:=sk S L R2 q (by simp[lfL,C,E])
  obtain⟨v,u,e,T,U⟩:=Q.two
  refine⟨v,u,e,k _ K M O ((P.bindS T g).bindS U (by rw[Wq];exact h))⟩
def HW(K:vE)(F H:Hp)(d:D)(x:V)(e:Hp):Prop:=(e=H/\Den K F d x)\/∃p f ds,H p=none/\e=upd H p (.tup f)/\x=.ref p/\d=.tup ds/\DenL K F ds f
def Walks(K:vE)(F:Hp)(J:It)(e:List D):Prop:=∀i H,Same F H->(∀d,e[i]? = some d->J.go i H/\∀x f,J.yld i H x f->HW K F H d x f)/\(e.length<=i->J.stop i H)
def DI(X:Cx)(l e:Expr)(ρ:CB)(d:List D)(ρ':CB):Prop:=∀g h,PI X l e (λi H R=>∃F,SR X.K g h F H i ρ/\∀J j f,Same F f->SR X.K g h f j i ρ'->Walks X.K f J d->R J j)
def forN(f:D->CB->Option CB)(b:CB->Option Out):List D->CB->Option Out
 |[],ρ=>some (.nx ρ)
 |d::l,ρ=>match f d ρ with
  |none=>none
  |some e=>match b e with
   |none=>none
   |some (.rt w)=>some (.rt w)
   |some (.nx ρ2)=>forN f b l ρ2
def DS.for_{tg n:Expr}{t:List Stmt}{P:D->CB->Option CB}{R:CB->Option Out}{f:List D}(hp:PassesOwn (model X.prog X.w) X.A X.env X.xe)(hc:X.calm=true)(hi:DI X tg n ρ f ρ')
 (hg:∀d ρ ρ',P d ρ=some ρ'->DG X tg d ρ ρ')(hb:∀ρ o,R ρ=some o->DSs X t ρ o)(hw:forN P R f ρ'=some o)(hs:∀x,foldedSetIterable n X.env x=pure x):DS X (.For tg n t [] pos) ρ o:=λC E=>by
 have pg:PG X tg (λv L H Q=>∃d ρ ρ',P d ρ=some ρ'/\∃F,SR X.K C E F H L ρ/\Den X.K F d v/\∀g,SR X.K C E F H g ρ'->Q g H):=λpins s L H v u Q I r ⟨d,ρ,ρ',h,q⟩=>hg d ρ ρ' h C E pins s L H v u Q I r q
 have pb:PSs X t (λD L H=>∃ρ o,R ρ=some o/\tS X.K C E ρ o D L H):=λpins s L H D I ⟨ρ,o,h,q⟩=>hb ρ o h C E pins s L H D I q
 refine PS.mono (kg hp hc (hi C E) pg pb hs) λD L H ⟨F,S,k⟩=>⟨F,S,λJ H1 F1 s1 S1 wk=>?_⟩
 refine⟨λi m g j=>m=f.length-i/\i<=f.length/\∃ρ2 O,Same F1 O/\SR X.K C E O j g ρ2/\forN P R (f.drop i) ρ2=some o,⟨_,rfl,Y8 _,ρ',F1,Same.refl _,S1,hw⟩,?_⟩
 rintro i m T H2 ⟨rfl,a1,ρ2,O,U,S2,l⟩
 have V:=wk i H2 (U.trans S2.sub);by_cases N:i<f.length
 ·have hd:f[i]? = some f[i]:=Zj N;rw[Jd N] at l;obtain⟨go,yl⟩:=V.1 _ hd
  unfold forN at l;cases e1:P f[i] ρ2 with
  |none=>rw[e1] at l;cases l
  |some B=>
   simp only[e1] at l;cases e2:R B with
   |none=>simp only[e2] at l;cases l
   |some o2=>
    simp only[e2] at l;have M:∀x j,J.yld i H2 x j->∃G,Same O G/\SR X.K C E G j T ρ2/\Den X.K G f[i] x:=λx j y=>by
     rcases yl x j y with⟨e,q⟩|⟨p,xs,ds,hp,e,ex,ed,q⟩
     ·subst e;exact⟨O,Same.refl _,S2,q.mono U⟩
     ·subst e ex;obtain⟨W,Y⟩:=S2.lay (.tup xs) hp
      refine⟨_,Y,W,?_⟩
      rw[ed];exact Den.tup_mk (SqT.of Bh) ((q.mono U).mono Y)
    cases o2 with
    |rt w=>
     cases l;refine .inr ⟨go,λ_ _=>False,λ_ _ z=>z.elim,λx j y=>?_⟩;obtain⟨G,Y,W,q3⟩:=M x j y
     exact⟨_,ρ2,B,e1,G,W,q3,λg Z=>⟨B,_,e2,G,Z,k⟩⟩
    |nx a0=>
     refine .inr ⟨go,λg j=>∃F',Same F1 F'/\SR X.K C E F' j g a0,λg j ⟨F',s',Z⟩=>⟨f.length-(i+1),by omega,rfl,N,a0,F',s',Z,l⟩,λx j y=>?_⟩;obtain⟨G,Y,W,q3⟩:=M x j y
     exact⟨_,ρ2,B,e1,G,W,q3,λg Z=>⟨B,_,e2,G,Z,λa2 H5 F5 s5 S5=>⟨F5,(U.trans Y).trans s5,S5⟩⟩⟩
 ·have e:i=f.length:=by omega
  subst e;rw[G5] at l;cases l;refine .inl ⟨V.2 (Zn _),?_⟩;exact k T H2 O (s1.trans U) S2
def DI.list{p:Expr}{l:List D}(s:DE X e (view ρ) w)(t:w.d=.lst l):DI X p e ρ l (after w ρ):=λu z=>PI.mono (kc (s u z)) λO H R ⟨F,S,k⟩=>by
 obtain⟨P,A⟩:=S.borrow
 refine⟨_,A,λv B Q C R2 q=>?_⟩
 obtain⟨E,G,m,n⟩:=S.afterF C R2 q
 rw[t] at n;obtain⟨a,f,I,g,r⟩:=n.lst
 refine⟨a,I,⟨f,m.sub.seq g⟩,k _ B E G m λi T h=>⟨λd J=>?_,λj=>⟨f,h.seq g,by rw[r.length];exact j⟩⟩⟩
 obtain⟨y,o,K⟩:=r.get J
 refine⟨⟨f,y,h.seq g,o⟩,λx L ⟨M,N⟩=>?_⟩
 have:=N f (h.seq g)
 rw[o] at this;cases this;exact .inl ⟨M,K⟩
theorem DI.tup{p:Expr}{l:List D}(s:DE X e (view ρ) w)(t:w.d=.tup l):DI X p e ρ l (after w ρ):=λu z=>PI.mono (kd (s u z)) λO H R ⟨F,S,k⟩=>by
 obtain⟨P,A⟩:=S.borrow
 refine⟨_,A,λv B Q C R2 q=>?_⟩
 obtain⟨E,G,m,n⟩:=S.afterF C R2 q
 rw[t] at n;obtain⟨a,f,I,g,r⟩:=n.tup
 refine⟨a,I,⟨f,Same.tup m.sub g⟩,k _ B E G m λi T h=>⟨λd J=>?_,λj=>⟨f,Same.tup h g,by rw[r.length];exact j⟩⟩⟩
 obtain⟨y,o,K⟩:=r.get J
 refine⟨⟨f,y,Same.tup h g,o⟩,λx L ⟨M,N⟩=>?_⟩
 have:=N f (Same.tup h g)
 rw[o] at this;cases this;exact .inl ⟨M,K⟩
def Bv(d:Int)(n:Nat):List D:=(List.range n).map λ(i:Nat)=>D.int (d+(i:Int))
def nr{K:vE}{F:Hp}{h:Int}{n:Nat}:Walks K F (Ia h n) (Bv h n):=λi H m=>by
 unfold Bv;refine⟨λd e=>?_,λf=>?_⟩
 ·rw[Zm] at e;by_cases g:i<n
  ·rw[Ua g] at e;cases e;exact⟨g,λx o ⟨j,l⟩=>.inl ⟨j,by rw[l];exact Den.int_mk⟩⟩
  ·rw[Y6 (by rw[Z3];omega)] at e;cases e
 ·rw[Zc,Z3] at f;exact f
def DI.range1{d a:Expr}{p:Pos}{n:Int}(f:Gl X "range")(g:X.mg "range" = none)(h:DA X [a] (view ρ) [.int n])(i:Bd a=true)(j : -(2^62)<=n)(l:n<2^62):DI X d (.Call (.Name "range" p) [a] [] pos) ρ (Bv 0 n.toNat) ρ:=λm o=>
 PI.mono (kf f g (h m o) (Bj i)) λA H R ⟨F,S,k⟩=>by
  obtain⟨B,r⟩:=S.borrow
  refine⟨_,r,λC s D t R2 q=>?_⟩
  obtain⟨u,w,z⟩:=S.tested t R2
  obtain⟨v,e,q⟩:=q.one
  rw[q.int] at e;exact⟨n,e,j,l,k _ s u w z nr⟩
end
open PySem L2 PyProof.Rows
def Inv.turned2{X:Cx}{pins:List (Addr×Obj)}{σ:L2.St}{H:Hp}{s:Shared}{t:Heap}{e j p:Addr}{o:HO}{L:Nat}(I:Inv X pins σ H s)(M:CQ X pins H e)(A:CQ X pins H j)
 (k:∀b d,b≠e->b≠j->s.heap.get? b=some d->t.get? b=some d)(D:s.heap.objs.size<=p)(B:ObjOk X.prog X.w (upd H p o) t p o):Inv X pins σ (upd H p o) {s with heap:=t,toks:=L}:=by
 obtain⟨E,F,W,N,O,P⟩:=M
 obtain⟨G,J,Y,Q,R,S⟩:=A
 have f:∀{b:Addr},b∉[e,j]->b≠e/\b≠j:=λh=>by simpa using h
 have C:∀{b:Addr}{d:Obj},s.heap.get? b=some d->b≠p:=λh z=>by
  have:=Zo h
  subst z;exact absurd (Zg this D) (Wm _)
 have i:∀{b:Addr}{u:HO},H b=some u->b≠p:=λh z=>by
  subst z;rw[I.hok.fresh D] at h;cases h
 refine I.step (g':=s.gens) (d':=s.drawn) (ch:=[e,j]) (λb l=>?_) (λb d _ _ g q _=>k b d (f g).1 (f g).2 q) (λb d _ _ g q _=>⟨d.slots,k b d (f g).1 (f g).2 q⟩)
  (λb d g q n=>by rw[Bg (C q)];exact n) (λb d g q=>⟨d,k b d (f g).1 (f g).2 q⟩) (λb K q=>by rw[Bg (i q)];exact q) (λb d K q=>by rw[Bg (i q)];exact q)
  (λb Z q=>⟨#[],by rw[Bg (i q),q];simp⟩) (λm T=>?_) (λb u q=>?_) I.bare
 ·rcases Zf.mp l with z|z
  ·subst z;exact⟨N,F,O,P⟩
  ·have z:=Zx.mp z;subst z;exact⟨Q,J,R,S⟩
 ·obtain⟨d,U,V,q,r⟩:=T
  exact⟨d,U,V,k _ d (Wz F) (Wz J) q,r⟩
 ·by_cases l:b=p
  ·subst l;rw[Bh] at q;cases q;exact B
  ·rw[Bg l] at q;refine(I.hok b u q).stay (λc v g z=>k c v ?_ ?_ z) (λc z=>by rw[Bg (i z)];exact z) λc K z=>by rw[Bg (i z)];exact z
   ·rintro rfl
    rcases g with z|z
    ·subst z;rw[E] at q;cases q
    ·rw[E] at z;cases z
   ·rintro rfl
    rcases g with z|z
    ·subst z;rw[G] at q;cases q
    ·rw[G] at z;cases z
def Mn(K:vE)(a:Addr):It:=
 ⟨λi H=>∃d x,SqL K H a d/\d[i]? = some x,λi H x e=>∃p y,H p=none/\x=.ref p/\e=upd H p (.tup [.int (i:Int),y])/\∀d,SqL K H a d->d[i]? = some y,λi H=>∃d,SqL K H a d/\d.length<=i⟩
def so{P:Program}{w:World}{K:vE}{B:List Expr}{x1}{tp:Pos}(a e g:Addr)(C:e≠g):Turn P w K (.Tuple B x1 tp) (Mn K a) [e,g] e (λi h=>(∃f,IsEnum h e g (i:Int) f)/\h.IsListIter g a i) where
 mem:=by simp
 obj:=λi h j b t=>by
  obtain⟨⟨f,J⟩,m⟩:=j
  rcases Zf.mp t with z|z
  ·subst z;exact⟨_,J,λv z=>by cases z⟩
  ·have z:=Zx.mp z;subst z;obtain⟨o,e,c,d⟩:=m
   exact⟨o,e,λv z=>by rw[d] at z;cases z⟩
 keep:=λi h h' j k=>by
  obtain⟨⟨f,J⟩,m⟩:=j
  exact⟨⟨f,k e vC _ J⟩,m.at λo q=>k g vC o q⟩
 item:=by
  intro X N O Q hc i n s σ H E I D j R;subst N O Q;obtain⟨⟨f,A⟩,l⟩:=j
  obtain⟨xs,x,L,S⟩:=R
  obtain⟨T,U,p,hz⟩:=I.list L
  obtain⟨u,hu,ru⟩:=U.get S
  refine wpAny_pyNext_enum_item A l p.isList (x:=u) (by simpa using hu) C λJ V F Y a4 Z=>⟨_,rfl,?_⟩
  refine wpAny_letOwnedTupleGo_enum V λm a0 r=>?_;have G:e<s.heap.objs.size:=Zo A;have a1:g<s.heap.objs.size:=by obtain⟨o,q,_⟩:=id l;exact Zo q
  have a2:m.get? s.heap.objs.size=some {cls:=.type "tuple",data:=.seq #[.int i s.toks,u]}:=(r.2 _ (Yd G)).trans Y;have a3:∀b M,b≠e->b≠g->s.heap.get? b=some M->m.get? b=some M:=λb M n1 n2 q=>(r.2 b n1).trans (Z b M n1 n2 q)
  have I2:Inv X n σ (upd H s.heap.objs.size (.tup [.int (i:Int),x])) {s with heap:=m,toks:=s.toks+1}:=by
   refine Inv.turned2 I (D e vC) (D g vC) a3 (Zn _) ?_;exact⟨by show 2<=sizeLine;decide,[.int i s.toks,u],.cons ⟨_,rfl⟩ #v[ru],⟨_,a2,rfl,_,rfl⟩⟩
  refine⟨.ref s.heap.objs.size,_,I2,rfl,⟨_,x,I.hok.fresh (Zn _),rfl,rfl,λys hy=>by rw[I.list_inj hy L];exact S⟩,⟨⟨u,?_⟩,?_⟩,λb t=>?_⟩
  ·have:((i+1:Nat):Int)=(i:Int)+1:=by push_cast;rfl
   show IsEnum m e g ((i+1:Nat):Int) u;rw[this];exact a0
  ·exact F.at λo q=>(r.2 g (Wz C)).trans q
  ·rw[Bg]
   ·exact(D b t).1
   ·rcases Zf.mp t with z|z
    ·subst z;exact Yj G
    ·have z:=Zx.mp z;subst z;exact Yj a1
 done:=by
  intro X N O Q hc i n s σ H E I D j R;subst N O Q;obtain⟨⟨f,A⟩,l⟩:=j
  obtain⟨xs,L,S⟩:=R
  obtain⟨T,U,p,hz⟩:=I.list L
  obtain⟨f0,f1,f2,f3,f4,f5⟩:=D g vC
  have hl:=U.length;exact wpAny_pyNext_enum_end (I.ok.hd hc) A l p.isList (by simp;omega) λh' eb=>⟨rfl,I.turned (t':=s.toks) (λb o t e=>eb b o t e) f0 f1 f3 f4 f5⟩
 self:=λ_ _ _ _ _ j h=>by
  obtain⟨⟨f,A⟩,_⟩:=j
  exact wpAny_pyIter_enum A h
def su:bootBuiltins "enumerate" = some (.type "enumerate"):=by decide +kernel
section
variable{X:Cx}{elts:List Expr}{x1:Nat}{tp:Pos}
def JV(K:vE)(e:TA):TI:=λf H R=>e f H λg d=>∃a,g=[.ref a]/\(∃h,SqL K d a h)/\R (Mn K a) d
def nu{a:Expr}{m:TA}{p pos:Pos}(v:Gl X "enumerate")(w:X.mg "enumerate" = none)(A:PA X [a] m)(B:starEach [a] X.env=[(false,eval a X.env)]):PI X (.Tuple elts x1 tp) (.Call (.Name "enumerate" p) [a] [] pos) (JV X.K m):=by
 intro d s n H R I h;refine Call_ (cU I v w su (Y3 (CH (A pos d s n H _ I h) λO f ⟨P,o,i,C,D⟩=>?_) B rfl));obtain⟨l,e,⟨Q,E⟩,q⟩:=D
 subst e;obtain⟨u,e,r⟩:=cI C
 subst e;cases r;obtain⟨F,S,p,T⟩:=i.list E
 refine call_enumerate_list p.isList λG t j J L=>?_;have M:Inv X d n o {f with heap:=G}:=i.kept (t':=f.toks) L;refine wpAny_pyIter_enum t ⟨_,[f.heap.objs.size+1,f.heap.objs.size],_,_,o,rfl,M,so l _ _ (U1 _),⟨⟨_,t⟩,j⟩,λb N=>?_,q⟩;have g:f.heap.objs.size<=b:=by
  rcases Zf.mp N with z|z
  ·rw[z];exact Uc _
  ·rw[Zx.mp z];exact Zn _
 exact i.fpOk g (i.hok.fresh g)
end
open PySem L2 PyProof.Rows
section
variable{prog:Program}{w:World}{A:Around}{E:Value->Shared->Prop}{h:Heap}{g:Array GenState}{d:Drawn}{t:Nat}{os:OsState}{a C:Addr}{o:Obj}{vs:Array Value}{K:vE}
end
open PySem L2 PyProof.Rows
section
variable{P:Program}{w:World}{H H':Hp}{h h':Heap}{a:Addr}{o:HO}
end
section
variable{fs:List Addr}{H H':Hp}{h0 h h1 B h':Heap}
end
def CX1(P:Program)(w:World):DR:=λd H s E e f=>∃(i C:Addr) (j:Value) (B:Heap) (g:Hp),e=.ref i/\f.os=s.os/\AllBare f.gens/\Un (D8 d) [] H g s.heap f.heap/\HOk P w g f.heap /\
 Heap.FlyingW B d i (.ref C) j f.heap/\(∀b o,s.heap.get? b=some o->b∉D8 d->∃h,B.get? b=some h)/\(∀b u,g b=some u->∃h,B.get? b=some h)/\E (.ref C) none g
section
variable{X:Cx}{pins:List (Addr×Obj)}{σ:L2.St}{H:Hp}{s:Shared}{E:XK}{E':Value->Shared->Prop}
end
open PySem L2 PyProof.Rows
section
variable{X:Cx}{pins:List (Addr×Obj)}{σ:L2.St}{H:Hp}{s:Shared}{E:XK}{E':Value->Shared->Prop}
end
open PySem L2 PyProof.Rows
abbrev km:List Str:=["FitError","NoNumber","NoShape","NoSize"]
def LQ(x y:Str):Bool:=decide (x=y) || decide (y=("FitError" : Str)) || decide (y=("ValueError" : Str))
def spR(K:vE)(n:Nat)(g:∅):Sp:=λh H Q E=>∃F d x C,Same F H/\DenL K F d h/\d.length=n/\g d=some (.val (.exc x))/\PySem.W.nsIn K mainGlobals x=some (some (.ref C)) /\
 ∀e f,Same H e->Same F f->Same f e->(∀a o,f a=some o->F a=some o\/H a=none)->E (.ref C) none e
def sv(X:Cx)(x:Str)(n:Nat)(e:∅):Prop:=∃(k:Nat) (f:Addr) (d:FuncData) (ps:List Str),
 FnOk X.prog X.w X.K X.mg X.base (CX1 X.prog X.w) k f d ps (spR X.K n e)/\Room k X.A/\X.mg x=some (.ref f)/\PySem.W.keepIn X.K (.ref f)=true/\Binds X.K d ps []
section
variable{X:Cx}{pins:List (Addr×Obj)}{σ:L2.St}{H:Hp}{s:Shared}{E':Value->Shared->Prop}{e:Expr}{es:List Expr}{pos:Pos}
end
section
variable{X:Cx}{e:Expr}{es:List Expr}{ρ:CB}{pos:Pos}{ds:List D}
end
open PySem L2 PyProof.Rows
def isX(d:List Str):D->Option Bool
 |.exc x=>if x∈km then some (d.any (LQ x)) else none
 |.non=>some false
 |_=>none
section
variable{X:Cx}{a e:Expr}{ρ:CF}{pos:Pos}
end
open PySem L2 PyProof.Rows
section
variable{X:Cx}{pins:List (Addr×Obj)}{σ:L2.St}{H:Hp}{s:Shared}
end
open PySem L2 PyProof.Rows
mutual
def toP:D->PyData
 |.non=>.none
 |.bl b=>.bool b
 |.int i=>.int i
 |.tup l=>.tuple (toPs l)
 |.lst l=>.list (toPs l)
 |.exc _=>.none
 |.obj _ _=>.none
def toPs:List D->List PyData
 |[]=>[]
 |d::l=>toP d::toPs l
end
mutual
def dOk:Nat->D->Bool
 |_,.non=>true
 |_,.bl _=>true
 |_,.int _=>true
 |0,.tup _=>false
 |n+1,.tup l=>dOkL n l
 |0,.lst _=>false
 |n+1,.lst l=>dOkL n l
 |_,.exc _=>false
 |_,.obj _ _=>false
def dOkL:Nat->List D->Bool
 |_,[]=>true
 |n,d::l=>dOk n d && dOkL n l
end
mutual
noncomputable def eqD:D->D->Bool
 |.non,.non=>true
 |.bl a,.bl b=>a == b
 |.bl a,.int j=>(if a then 1 else 0) == j
 |.int i,.bl b=>i == (if b then 1 else 0)
 |.int i,.int j=>i == j
 |.tup l,.tup m=>eqL l m
 |.lst l,.lst m=>eqL l m
 |_,_=>false
noncomputable def eqL:List D->List D->Bool
 |[],[]=>true
 |d::l,e::m=>eqD d e && eqL l m
 |_,_=>false
end
mutual
theorem dR:∀(n m:Nat) (d e:D),dOk n d=true->dOk m e=true->PyData.eqv (toP d) (toP e)=eqD d e
 |n,m,.tup l,.tup k,f,g=>by
  cases n with
  |zero=>simp only[dOk] at f;cases f
  |succ n=>
   cases m with
   |zero=>simp only[dOk] at g;cases g
   |succ m=>
    simp only[dOk] at f g;simp only[toP,PyData.eqv,eqD];exact El n m l k f g
 |n,m,.lst l,.lst k,f,g=>by
  cases n with
  |zero=>simp only[dOk] at f;cases f
  |succ n=>
   cases m with
   |zero=>simp only[dOk] at g;cases g
   |succ m=>
    simp only[dOk] at f g;simp only[toP,PyData.eqv,eqD];exact El n m l k f g
 |n,m,.exc _,_,f,_=>by simp only[dOk] at f;cases f
 |n,m,d,.exc _,_,g=>by simp only[dOk] at g;cases g
 |n,m,.obj _ _,_,f,_=>by simp only[dOk] at f;cases f
 |n,m,d,.obj _ _,_,g=>by simp only[dOk] at g;cases g
 |n,m,.non,.non,_,_=>by simp only[toP,PyData.eqv,eqD]
 |n,m,.non,.bl _,_,_=>by simp only[toP,PyData.eqv,eqD]
 |n,m,.non,.int _,_,_=>by simp only[toP,PyData.eqv,eqD]
 |n,m,.non,.tup _,_,_=>by simp only[toP,PyData.eqv,eqD]
 |n,m,.non,.lst _,_,_=>by simp only[toP,PyData.eqv,eqD]
 |n,m,.bl _,.non,_,_=>by simp only[toP,PyData.eqv,eqD]
 |n,m,.bl _,.bl _,_,_=>by simp only[toP,PyData.eqv,eqD]
 |n,m,.bl _,.int _,_,_=>by simp only[toP,PyData.eqv,eqD]
 |n,m,.bl _,.tup _,_,_=>by simp only[toP,PyData.eqv,eqD]
 |n,m,.bl _,.lst _,_,_=>by simp only[toP,PyData.eqv,eqD]
 |n,m,.int _,.non,_,_=>by simp only[toP,PyData.eqv,eqD]
 |n,m,.int _,.bl _,_,_=>by simp only[toP,PyData.eqv,eqD]
 |n,m,.int _,.int _,_,_=>by simp only[toP,PyData.eqv,eqD]
 |n,m,.int _,.tup _,_,_=>by simp only[toP,PyData.eqv,eqD]
 |n,m,.int _,.lst _,_,_=>by simp only[toP,PyData.eqv,eqD]
 |n,m,.tup _,.non,_,_=>by simp only[toP,PyData.eqv,eqD]
 |n,m,.tup _,.bl _,_,_=>by simp only[toP,PyData.eqv,eqD]
 |n,m,.tup _,.int _,_,_=>by simp only[toP,PyData.eqv,eqD]
 |n,m,.tup _,.lst _,_,_=>by simp only[toP,PyData.eqv,eqD]
 |n,m,.lst _,.non,_,_=>by simp only[toP,PyData.eqv,eqD]
 |n,m,.lst _,.bl _,_,_=>by simp only[toP,PyData.eqv,eqD]
 |n,m,.lst _,.int _,_,_=>by simp only[toP,PyData.eqv,eqD]
 |n,m,.lst _,.tup _,_,_=>by simp only[toP,PyData.eqv,eqD]
theorem El:∀(n m:Nat) (l k:List D),dOkL n l=true->dOkL m k=true->PyData.eqvAll (toPs l) (toPs k)=eqL l k
 |n,m,[],[],_,_=>by simp only[toPs,PyData.eqvAll,eqL]
 |n,m,d::l,e::k,f,g=>by
  simp only[dOkL,Zl] at f g;simp only[toPs,PyData.eqvAll,eqL];rw[dR n m d e f.1 g.1,El n m l k f.2 g.2]
 |n,m,[],_::_,_,_=>by simp only[toPs,PyData.eqvAll,eqL]
 |n,m,_::_,[],_,_=>by simp only[toPs,PyData.eqvAll,eqL]
end
mutual
theorem eU:∀(n:Nat) (d:D),dOk n d=true->(toP d).canLay0=true/\(toP d).depth<=n
 |_,.non,_=>by simp[toP,PyData.canLay0,PyData.depth]
 |_,.bl _,_=>by simp[toP,PyData.canLay0,PyData.depth]
 |_,.int _,_=>by simp[toP,PyData.canLay0,PyData.depth]
 |0,.tup _,h=>by simp only[dOk] at h;cases h
 |n+1,.tup l,h=>by
  simp only[dOk] at h;obtain⟨a,b⟩:=Dx n l h
  simp only[toP,PyData.canLay0,PyData.depth];exact⟨a,by omega⟩
 |0,.lst _,h=>by simp only[dOk] at h;cases h
 |n+1,.lst l,h=>by
  simp only[dOk] at h;obtain⟨a,b⟩:=Dx n l h
  simp only[toP,PyData.canLay0,PyData.depth];exact⟨a,by omega⟩
 |_,.exc _,h=>by simp only[dOk] at h;cases h
 |_,.obj _ _,h=>by simp only[dOk] at h;cases h
theorem Dx:∀(n:Nat) (l:List D),dOkL n l=true->PyData.canLayAll0 (toPs l)=true/\PyData.depthAll (toPs l)<=n
 |_,[],_=>by simp[toPs,PyData.canLayAll0,PyData.depthAll]
 |n,d::l,h=>by
  simp only[dOkL,Zl] at h;obtain⟨a,b⟩:=eU n d h.1
  obtain⟨c,e⟩:=Dx n l h.2
  simp only[toPs,PyData.canLayAll0,PyData.depthAll,Zl];exact⟨⟨a,c⟩,by omega⟩
end
section
variable{X:Cx}{pins:List (Addr×Obj)}{σ:L2.St}{H F:Hp}{s:Shared}
mutual
theorem cg(I:Inv X pins σ H s)(g:Same F H):∀(n:Nat) (d:D){v:V}{u:Value},dOk n d=true->Den X.K F d v->RelV v u->∃j,Reads s.heap u (toP d) j
 |_,.non,v,u,_,h,r=>by rw[h.non] at r;cases(show u=Value.none from r);exact⟨_,.none⟩
 |_,.bl b,v,u,_,h,r=>by rw[h.bl] at r;cases(show u=Value.bool b from r);exact⟨_,.bool b⟩
 |_,.int i,v,u,_,h,r=>by
  rw[h.int] at r;obtain⟨t,e⟩:=(show ∃t,u=Value.int i t from r)
  subst e;exact⟨_,.int i t⟩
 |0,.tup _,_,_,h,_,_=>by simp only[dOk] at h;cases h
 |n+1,.tup l,v,u,f,h,r=>by
  simp only[dOk] at f;obtain⟨a,E,e,m,q⟩:=h.tup
  subst e;cases(show u=Value.ref a from r)
  obtain⟨p,w,⟨o,z,A,k,B⟩,_⟩:=I.tuple (Same.tup g m)
  obtain⟨j,C⟩:=Dq I g n l f q w
  exact⟨_,.tuple z A B (by simpa using C)⟩
 |0,.lst _,_,_,h,_,_=>by simp only[dOk] at h;cases h
 |n+1,.lst l,v,u,f,h,r=>by
  simp only[dOk] at f;obtain⟨a,E,e,m,q⟩:=h.lst
  subst e;cases(show u=Value.ref a from r)
  obtain⟨p,w,⟨o,k,z,A,B⟩,_⟩:=I.list (g.seq m)
  obtain⟨j,C⟩:=Dq I g n l f q w
  exact⟨_,.list z A B.2 (by simpa using C)⟩
 |_,.exc _,_,_,h,_,_=>by simp only[dOk] at h;cases h
 |_,.obj _ _,_,_,h,_,_=>by simp only[dOk] at h;cases h
theorem Dq(I:Inv X pins σ H s)(i:Same F H):∀(n:Nat) (l:List D){f:List V}{us:List Value},dOkL n l=true->DenL X.K F l f->Vals f us->∃j,ReadsAll s.heap us (toPs l) j
 |_,[],f,us,_,h,r=>by
  rw[h.inv_nil] at r;cases r;exact⟨_,.nil⟩
 |n,d::l,f,us,g,h,r=>by
  simp only[dOkL,Zl] at g;obtain⟨v,w,e,m,o⟩:=h.inv_cons
  subst e;cases r with
  |cons p q=>
   obtain⟨j,t⟩:=cg I i n d g.1 m p
   obtain⟨z,u⟩:=Dq I i n l g.2 o q
   exact⟨_,.cons t u⟩
end
end
section
variable{X:Cx}
def iD{d:D}(h:dOk 50 d=true):SeqAt.shaped (toP d)=true:=by
 obtain⟨a,b⟩:=eU 50 d h
 unfold SeqAt.shaped;rw[a,Bool.true_and];exact decide_eq_true vB
def iE(K:vE)(x y:D)(k:Bool):R2:=λv u H Q=>∃F,Same F H/\Den K F x v/\Den K F y u/\Q (.bl k) H
def nv{x y:D}(g:X.A.units+64<cLine)(d:dOk 50 x=true)(e:dOk 50 y=true):bF X .Eq x y (eqD x y):=by
 refine⟨iE X.K x y (eqD x y),?_,λH F v u Q s h i q=>⟨F,s,h,i,q⟩⟩
 intro pins s r H v u t w Q I j l ⟨F,f,m,n,q⟩;obtain⟨z,o⟩:=cg I f 50 x d m j
 obtain⟨B,p⟩:=cg I f 50 y e n l
 refine eq_dataH o p (iD d) (iD e) g ?_;rw[dR 50 50 x y d e];exact⟨.bl _,H,I,rfl,q⟩
def ny{x y:D}(g:X.A.units+64<cLine)(d:dOk 50 x=true)(e:dOk 50 y=true):bF X .NotEq x y (!eqD x y):=by
 refine⟨iE X.K x y (!eqD x y),?_,λH F v u Q s h i q=>⟨F,s,h,i,q⟩⟩
 intro pins s r H v u t w Q I j l ⟨F,f,m,n,q⟩;obtain⟨z,o⟩:=cg I f 50 x d m j
 obtain⟨B,p⟩:=cg I f 50 y e n l
 refine ne_dataH o p (iD d) (iD e) g ?_;rw[dR 50 50 x y d e];exact⟨.bl _,H,I,rfl,q⟩
theorem ko{x:D}(e:dOk 50 x=true):∀(l:List D),dOkL 49 l=true->((toPs l).any λy=>PyData.eqv y (toP x))=l.any λy=>eqD y x
 |[],_=>rfl
 |d::l,h=>by
  simp only[dOkL,Zl] at h;simp only[toPs,List.any_cons];rw[dR 49 50 d x h.1 e,ko e l h.2]
def sA{x:D}{l:List D}(t:X.A.units+64<cLine)(d:dOk 50 x=true)(e:dOkL 49 l=true):bF X .In x (.lst l) (l.any λy=>eqD y x):=by
 refine⟨iE X.K x (.lst l) _,?_,λH F v u Q s h i q=>⟨F,s,h,i,q⟩⟩
 intro pins s w H v u z B Q I j m ⟨F,f,n,o,q⟩;obtain⟨C,p⟩:=cg I f 50 x d n j
 obtain⟨E,g⟩:=cg I f 50 (.lst l) (by simp only[dOk];exact e) o m
 simp only[toP] at g;obtain⟨a,b⟩:=eU 50 x d
 obtain⟨r,G⟩:=Dx 49 l e
 refine SeqAt.in_list_reads g p r a (by have:=Nat.min_le_right (PyData.depthAll (toPs l)) (toP x).depth;omega) ?_;rw[ko d l e];exact⟨.bl _,H,I,rfl,q⟩
def sC{x:D}{l:List D}(t:X.A.units+64<cLine)(d:dOk 50 x=true)(e:dOkL 49 l=true):bF X .NotIn x (.lst l) (!(l.any λy=>eqD y x)):=by
 refine⟨iE X.K x (.lst l) _,?_,λH F v u Q s h i q=>⟨F,s,h,i,q⟩⟩
 intro pins s w H v u z B Q I j m ⟨F,f,n,o,q⟩;obtain⟨C,p⟩:=cg I f 50 x d n j
 obtain⟨E,g⟩:=cg I f 50 (.lst l) (by simp only[dOk];exact e) o m
 simp only[toP] at g;obtain⟨a,b⟩:=eU 50 x d
 obtain⟨r,G⟩:=Dx 49 l e
 refine SeqAt.notIn_list_reads g p r a (by have:=Nat.min_le_right (PyData.depthAll (toPs l)) (toP x).depth;omega) ?_;rw[ko d l e];exact⟨.bl _,H,I,rfl,q⟩
end
open PySem L2 PyProof.Rows
def cloF(d:List (Str×Addr)):List (Str×NameKind)->List (Str×Addr)->List (Str×Addr)
 |[],e=>e
 |(n,k)::r,e=>cloF d r (if (k == NameKind.free)=true then(n,(d.lookup n).getD 0)::e else e)
def nz{scope:Scope}{env:Env}(h:∀y∈scope.names,y.2=.free->∃c,env.cells.lookup y.1=some c):closureFor scope env=pure (cloF env.cells scope.names []):=by
 have key:∀(l:List (Str×NameKind)) (d:List (Str×Addr)),(∀y∈l,y.2=.free->∃c,env.cells.lookup y.1=some c) ->
   (forIn l d (λx d=>if (x.2 == NameKind.free)=true then do let a <-cellOf env x.1;pure (ForInStep.yield ((x.1,a)::d)) else pure (ForInStep.yield d)):Sem (List (Str×Addr)))=pure (cloF env.cells l d):=by
  intro l;induction l with
  |nil=>intro d _;rfl
  |cons y l j=>
   intro d h;rw[Kw];obtain⟨n,k⟩:=y
   have g:=λd=>j d λz m=>h z (Yv _ m)
   by_cases e:(k == NameKind.free)=true
   ·obtain⟨c,i⟩:=h (n,k) Wu (by cases k<;>first|rfl|cases e)
    have f:cellOf env n=pure c:=by unfold cellOf;rw[i]
    simp only[e,if_true,f,pure_bind];rw[g];simp only[cloF,e,if_true,i,Km]
   ·simp only[e,if_false,pure_bind,Wv];rw[g];simp only[cloF,e,if_false,Wv]
 unfold closureFor;have:=key scope.names [] h
 simp only[bind_pure];first|exact this|(refine Eq.trans ?_ this;rfl)|(simp at this |-;exact this)
theorem iF{d:List (Str×Addr)}:∀(l:List (Str×NameKind)) (f:List (Str×Addr)),(∀y∈l,y.2=.free->∃c,d.lookup y.1=some c)->(∀p∈f,d.lookup p.1=some p.2)->∀p∈cloF d l f,d.lookup p.1=some p.2
 |[],f,_,h,p,g=>h p g
 |(n,k)::r,f,j,h,p,g=>by
  unfold cloF at g;refine iF r _ (λz m=>j z (Yv _ m)) (λq i=>?_) p g;by_cases e:(k == NameKind.free)=true
  ·rw[if_pos e] at i;rcases Zf.mp i with z|z
   ·subst z;obtain⟨c,o⟩:=j (n,k) Wu (by cases k<;>first|rfl|cases e)
    simp only[o,Km]
   ·exact h q z
  ·rw[if_neg e] at i;exact h q i
theorem nA{d:List (Str×Addr)}:∀(l:List (Str×NameKind)) (f:List (Str×Addr)) (p:Str×Addr),p∈f->p∈cloF d l f
 |[],_,_,h=>h
 |(n,k)::r,f,p,h=>by
  unfold cloF;refine nA r _ p ?_;by_cases e:(k == NameKind.free)=true
  ·rw[if_pos e];exact Yv _ h
  ·rw[if_neg e];exact h
theorem kq{d:List (Str×Addr)}:∀(l:List (Str×NameKind)) (e:List (Str×Addr)) (x:Str),(x,NameKind.free)∈l->∃c,(x,c)∈cloF d l e
 |(n,k)::r,e,x,h=>by
  unfold cloF;rcases Zf.mp h with z|z
  ·cases z;have f:(NameKind.free == NameKind.free)=true:=rfl;simp only[f,if_true];exact⟨_,nA r _ _ Wu⟩
  ·exact kq r _ x z
theorem dS{d:Type}:∀{l:List (Str×d)}{x:Str}{c:d},l.lookup x=some c->(x,c)∈l
 |[],_,_,h=>by cases h
 |(n,a)::r,x,c,h=>by
  rw[Qj] at h;cases q:(x == n) with
  |true=>rw[q] at h;cases h;rw[eq_of_beq q];exact Wu
  |false=>rw[q] at h;exact Yv _ (dS h)
theorem kr{d:Type}:∀{l:List (Str×d)}{x:Str}{c:d},(x,c)∈l->∃e,l.lookup x=some e
 |(n,a)::r,x,c,h=>by
  rw[Qj];cases q:(x == n) with
  |true=>exact⟨_,rfl⟩
  |false=>
   rcases Zf.mp h with z|z
   ·cases z;rw[beq_self_eq_true] at q;cases q
   ·exact kr z
open PySem L2 PyProof.Rows
def nB{scope:Scope}{env:Env}{x:Str}:(relabel scope env).names.lookup x=(scope.names.lookup x).map λk=>if (k == NameKind.free && env.scope.kind == .function && env.kindOf x == some .cell)=true then NameKind.cell else k:=by
 unfold relabel;simp only
 generalize scope.names=l;induction l with
 |nil=>rfl
 |cons y l e=>
  obtain⟨n,k⟩:=y
  rw[Zy];by_cases d:(k == NameKind.free && env.scope.kind == .function && env.kindOf n == some .cell)=true
  ·simp only[d,if_true];rw[Qj,Qj];cases q:(x == n) with
   |true=>have:=eq_of_beq q;subst this;simp only[Wy];rw[if_pos d]
   |false=>simpa using e
  ·simp only[d];rw[if_neg vC,Qj,Qj];cases q:(x == n) with
   |true=>have:=eq_of_beq q;subst this;simp only[Wy];rw[if_neg d]
   |false=>simpa using e
def De(X:Cx)(scope:Scope)(d:List (Str×Addr))(C:Addr)(N':List Str)(s₀:Shared)(H₀:Hp)(ex:List Addr):Cx:=
 {X with N:=N',s₀:=s₀,H₀:=H₀,env:=compEnvC scope d C X.env,outer:=X.stack,stack:=X.stack,ex:=ex,fn:=λ_=>false,pn:=[],xe:=λ_ _=>False}
section
variable{X:Cx}{pins:List (Addr×Obj)}{σ:L2.St}{H:Hp}{s:Shared}{scope:Scope}{C:Addr}{N':List Str}{fp:List Addr}
def HP(I:Inv X pins σ H s)(r:scope.kind=.function)(f:∀y∈scope.names,y.2 ≠ .cell)(g:∀y∈scope.names,y.2=.free->∃c,X.env.cells.lookup y.1=some c)
 (n:s.heap.objs.size<=C)(d:∀b∈fp,CQ X pins H b)(m:∀b∈fp,∃o,s.heap.get? b=some o):(De X scope (cloF X.env.cells scope.names []) C N' s H fp).Ok:=by
 have i:∀{x c},(cloF X.env.cells scope.names []).lookup x=some c->X.env.cells.lookup x=some c:=λh=>iF scope.names [] g (λp t=>nomatch t) _ (dS h)
 refine⟨I.ok.mod,r,I.ok.glob,I.ok.blt,n,λx y c u v=>I.ok.inj x y c (i u) (i v),λx h=>?_,λx c h=>absurd h (by simp[De]),I.ok.hd,I.ok.frames,.inl rfl,λb j=>?_,I.bs,Y9 I.ok.bsz I.sz,λb o e j=>?_,λb j z=>?_,I.stack,I.stkFree⟩
 ·have l:(relabel scope X.env).names.lookup x=some .cell\/(relabel scope X.env).names.lookup x=some .free:=h;rw[nB] at l;have:scope.names.lookup x=some .free:=by
   cases q:scope.names.lookup x with
   |none=>rw[q] at l;rcases l with z|z<;>cases z
   |some k=>
    rw[q] at l;have w:=dS q;cases k with
    |free=>rfl
    |cell=>exact absurd rfl (f _ w)
    |_=>rcases l with z|z<;>simp at z
  obtain⟨c,A⟩:=kq scope.names [] x (dS this)
  exact kr A
 ·obtain⟨o,e⟩:=m b j
  refine⟨?_,λx c h=>(d b j).2.2.2.2.1 x c (i h)⟩
  exact Yj (Zg (Zo e) n)
 ·rcases(d b j).2.2.2.1 with z|z
  ·exact I.ok.noex b o e z
  ·exact absurd (Zg (Zo e) (Y9 I.ok.bsz z)) (Wm _)
 ·rcases Zf.mp (I.stkSub b z) with e|e
  ·exact(d b j).2.1 e
  ·exact(d b j).2.2.1 e
def sD{s':Shared}{t:Heap}{t':Nat}{σ':L2.St}(I:Inv X pins σ H s)(O:scope.kind=.function)(l:∀y∈scope.names,y.2 ≠ .cell)(d:∀y∈scope.names,y.2=.free->∃c,X.env.cells.lookup y.1=some c)
 (L:C=s.heap.objs.size)(w:∀b∈fp,CQ X pins H b)(A:∀b∈fp,∃o,s.heap.get? b=some o){m:Str->Option Value}(B:t.Ns C m)(f:∀b o,s.heap.get? b=some o->t.get? b=some o)
 (P:σ'.length=N'.length)
 (Q:∀(i:Nat) (x:Str) (v:V),N'[i]? = some x->σ'[i]? = some (some v)->scope.names.lookup x=some .free/\X.env.kindOf x=some .cell/\∃j:Nat,X.N[j]? = some x/\σ[j]? = some (some v)):
  Inv (De X scope (cloF X.env.cells scope.names []) C N' s H fp) [] σ' H {s with heap:=t,toks:=t'}:=by
 have n:∀{x c},(cloF X.env.cells scope.names []).lookup x=some c->X.env.cells.lookup x=some c:=λh=>iF scope.names [] d (λp D=>nomatch D) _ (dS h)
 refine⟨HP I O l d (V0 L.symm) w A,rfl,I.bare,Un.kept f,⟨m,B,λi x v R S Z=>?_⟩,λx c e=>?_,?_,λx c e=>I.freeC x c (n e),λp D=>?_,I.hok.kept f,P⟩
 ·obtain⟨M,E,j,T,U⟩:=Q i x v R S
  obtain⟨m0,W,F⟩:=I.loc
  obtain⟨u,r,lk⟩:=F j x v T U (.inr (.inl E))
  refine⟨u,r,.inr ⟨.inl ?_,?_⟩⟩
  ·show(relabel scope X.env).names.lookup x=some .cell;rw[nB,M];have:(X.env.scope.kind == ScopeKind.function)=true:=by rw[I.ok.kind];rfl
   simp[this,E]
  ·rcases lk with⟨z,_⟩|⟨_,c,Y,g⟩
   ·rw[E] at z;cases z
   ·obtain⟨c',G⟩:=kq scope.names [] x (dS M)
    obtain⟨c2,q⟩:=kr G
    have:=n q
    rw[Y] at this;cases this;obtain⟨o,J,K⟩:=g
    exact⟨c,q,o,f _ _ J,K⟩
 ·obtain⟨v,o,J,K⟩:=I.cell x c (n e)
  exact⟨v,o,f _ _ J,K⟩
 ·show H C=none;rw[L];exact I.hok.fresh (Zn _)
 ·exact nomatch D
def sE{h:List (Str×Addr)}{σ':L2.St}{f:Hp}{g:Shared}{pl:List (Addr×Obj)}(I:Inv X pins σ H s)(d:∀b∈fp,CQ X pins H b)(J:Inv (De X scope h C N' s H fp) pl σ' f g):Inv X pins σ f g:=
 I.call' (ch:=fp) J.os J.base J.hok J.bare λb e=>⟨(d b e).2.2.2.1,(d b e).2.1,(d b e).2.2.2.2.1,(d b e).2.2.2.2.2⟩
end
open PySem L2 PyProof.Rows
section
variable{K:vE}{H0 Fc F H:Hp}{σ:L2.St}{ρ:CF}
def ER.mutF(R:ER K H0 Fc F H σ ρ){a:Addr}{o:HO}(d:F a=none)(f:H0 a=none):ER K H0 Fc F (upd H a o) σ ρ:=
 ⟨λb u e=>by rw[Bg (λz=>by subst z;rw[d] at e;cases e)];exact R.sub b u e,λb u e=>by rw[Bg (λz=>by subst z;rw[f] at e;cases e)];exact R.same b u e,R.base,R.new,R.env⟩
def ER.here(R:ER K H0 Fc F H σ ρ):ER K H F F H σ ρ:=⟨R.sub,Same.refl _,Same.refl _,λa o e=>.inl e,R.env⟩
def ER.there{g h:Hp}{σ':L2.St}{d:CF}(R:ER K H0 Fc F H σ ρ)(f:ER K H F g h σ' d):ER K H0 Fc g h σ' d:=
 ⟨f.sub,R.same.trans f.same,R.base.trans f.base,λa o e=>(f.new a o e).elim (R.new a o) λz=>.inr (R.same.free z),f.env⟩
def ER.fewer{f:CF}(R:ER K H0 Fc F H σ ρ)(h:∀(i:Nat) d,f[i]? = some (some d)->ρ[i]? = some (some d)):ER K H0 Fc F H σ f:=⟨R.sub,R.same,R.base,R.new,λi d e=>R.env i d (h i d e)⟩
end
def DIe(X:Cx)(m e:Expr)(g:CF)(d:List D):Prop:=∀h i,PI X m e (λj H R=>∃F,ER X.K h i F H j g/\∀J l f,Same F f->ER X.K h i f l j g->Walks X.K f J d->R J l)
def DGe(X:Cx)(j:Expr)(d:D)(l f:CF):Prop:=∀g h,PG X j (λv i H Q=>i.length=X.N.length/\∃F,ER X.K g h F H i l/\Den X.K F d v/\∀e,e.length=X.N.length->ER X.K g h F H e f->Q e H)
def bG(f:D->Option (Option D)):List D->Option (List D)
 |[]=>some []
 |d::l=>match f d with
  |none=>none
  |some none=>bG f l
  |some (some e)=>(bG f l).map λr=>e::r
def D0(X:Cx)(d:List Expr)(e:CF)(k:Bool):Prop:=(d=[]/\k=true)\/∃c,d=[c]/\DT X c e k
section
variable{X:Cx}{pins:List (Addr×Obj)}{σ:L2.St}{H1:Hp}{s2:Shared}{tg elt iter:Expr}{ifs:List Expr}{scope:Scope}{pos:Pos}{fp:List Addr}{it:Addr}{tn:Nat->Heap->Prop}{J:It}{N':List Str}{items res:List D}{f:D->Option (Option D)}{ρ0:CF}
def Li(X:Cx)(scope:Scope)(C:Addr)(N':List Str)(l:Shared)(H1:Hp)(D:Addr)(fp:List Addr)(tn:Nat->Heap->Prop)(items:List DL.D)(m o p:Hp)(ρ0:CF)(f:DL.D->Option (Option DL.D))(res:List DL.D)(n:Nat)(h:Shared):Prop:=
 ∃i d e g j done rest,Inv (De X scope (cloF X.env.cells scope.names []) C N' l (upd H1 D (.lst [])) fp) [] d e h/\tn i h.heap/\(∀b∈fp,e b=none)/\n=items.length+1-i/\i<=items.length /\
   ER X.K m o g e d ρ0/\Same p g/\g D=none/\e D=some (.lst j)/\DenL X.K g done j/\bG f (items.drop i)=some rest/\done++rest=res/\done.length<=i
def sF{Z Fc F1:Hp}{ρ:CF}{σ':L2.St}{RR:Value->Addr->Result->Shared->Prop}{E:Value->Shared->Prop}(I:Inv X pins σ H1 s2)(a0:X.calm=true)(T:Turn X.prog X.w X.K tg J fp it tn)(h0:tn 0 s2.heap)(ak:∀b∈fp,CQ X pins H1 b)
 (hk:scope.kind=.function)(aJ:∀y∈scope.names,y.2 ≠ .cell)(am:∀y∈scope.names,y.2=.free->∃c,X.env.cells.lookup y.1=some c)
 (R1:ER X.K Z Fc F1 H1 σ ρ)(hl:σ'.length=N'.length)(b1:∀(i:Nat) d,ρ0[i]? = some (some d)->∃v,σ'[i]? = some (some v)/\Den X.K F1 d v)
 (hv:∀(i:Nat) (x:Str) (v:V),N'[i]? = some x->σ'[i]? = some (some v)->scope.names.lookup x=some .free/\X.env.kindOf x=some .cell/\∃j:Nat,X.N[j]? = some x/\σ[j]? = some (some v))
 (wk:Walks X.K F1 J items)(b2:items.length<=sizeLine)(au:bG f items=some res)
 (av:∀(C:Addr) (s₀:Shared) (H₀:Hp) (d:D) (o:Option D),d∈items->f d=some o->∃G,DGe (De X scope (cloF X.env.cells scope.names []) C N' s₀ H₀ fp) tg d ρ0 G/\(∀(i:Nat) d,ρ0[i]? = some (some d)->G[i]? = some (some d)) /\
   (match o with|none=>D0 (De X scope (cloF X.env.cells scope.names []) C N' s₀ H₀ fp) ifs G false|some e=>D0 (De X scope (cloF X.env.cells scope.names []) C N' s₀ H₀ fp) ifs G true/\DF (De X scope (cloF X.env.cells scope.names []) C N' s₀ H₀ fp) elt G e))
 (aw:∀(D C:Addr) (s5:Shared) (H' F':Hp) (ys:List V) (m:Str->Option Value),Inv X pins σ H' s5->s5.heap.Ns C m->H' C=none->C≠X.env.locals->X.s₀.heap.objs.size<=C->(∀x c,X.env.cells.lookup x=some c->c≠C)->(∀p∈X.pn++pins,p.1≠C) ->
   Same F1 F'->ER X.K Z Fc F' H' σ ρ->F' D=none->Z D=none->H' D=some (.lst ys)->DenL X.K F' res ys->RR (.ref D) C (.ok .next) s5)
 {D C:Addr}{O:Shared}{h4:Heap}{tk:Nat}(I3:Inv X pins σ (upd H1 D (.lst [])) O)(aK:∀b∈fp,∃o,O.heap.get? b=some o)(af:∀b∈fp,CQ X pins (upd H1 D (.lst [])) b)(hC:O.heap.objs.size=C)(J4:Inv (De X scope (cloF X.env.cells scope.names []) C N' O (upd H1 D (.lst [])) fp) [] σ' (upd H1 D (.lst [])) {O with heap:=h4,toks:=tk})(aL:tn 0 h4)
 (CX:C≠X.env.locals/\X.s₀.heap.objs.size<=C/\(∀x c,X.env.cells.lookup x=some c->c≠C)/\(∀p∈X.pn++pins,p.1≠C))(R4:ER X.K Z Fc F1 (upd H1 D (.lst [])) σ' ρ0)(aM:F1 D=none)(ax:Z D=none):
  codeAny (model X.prog X.w) X.A (.compLoop (.ListComp elt [⟨tg,iter,ifs,0⟩] scope pos) 0 (.ref it) (.ref D) (compEnvC scope (cloF X.env.cells scope.names []) C X.env)) (RR (.ref D) C) {O with heap:=h4,toks:=tk}:=by
 refine codeAny_loop rfl (Li X scope C N' O H1 D fp tn items Z Fc F1 ρ0 f res) ?_ (items.length+1)
  ⟨0,σ',_,F1,[],[],res,J4,aL,λb W=>(af b W).1,rfl,Y8 _,R4,Same.refl _,aM,Bh,DenL.nil,au,rfl,Y8 _⟩
 rintro n s5 ⟨i,a7,Ha,Fa,ys,done,rest,J5,ay,az,rfl,hi,R5,P,a1,a8,a9,H,aa,b3⟩
 show wpAny _ X.A ((compTurn (.ListComp elt [⟨tg,iter,ifs,0⟩] scope pos) 0 (.ref it) (.ref D) (compEnvC scope (cloF X.env.cells scope.names []) C X.env)).onRaise (λx=>do noteFrame x (compEnvC scope (cloF X.env.cells scope.names []) C X.env);theTreesLotGoes x)) _ _ s5;refine wpAny_noted ?_;rw[compTurn_list];have fx:∀{Hx:Hp},(∀b∈fp,Hx b=none)->∀b∈fp,CQ (De X scope (cloF X.env.cells scope.names []) C N' O (upd H1 D (.lst [])) fp) [] Hx b:=λhn b W=>by
  refine⟨hn b W,?_,?_,.inl W,?_,λp hp=>nomatch hp⟩
  ·obtain⟨o,e⟩:=aK b W
   show b≠C;rw[<-hC];exact Yj (Zo e)
  ·intro z;rcases Zf.mp (I.stkSub b z) with e|e
   ·exact(ak b W).2.1 e
   ·exact(ak b W).2.2.1 e
  ·intro x c h;exact(ak b W).2.2.2.2.1 x c (iF scope.names [] am (λp hp=>nomatch hp) _ (dS h))
 have ff:∀{α:Type}{t:Sem α}{Q:α->Shared->Prop}{E':Value->Shared->Prop}{s:Shared},wpAny (model X.prog X.w) X.A t Q (λ_ _=>False) s->wpAny (model X.prog X.w) X.A t Q E' s:=λh=>U8 h (λ_ _ q=>q) λ_ _ z=>z.elim
 have aA:=wk i Ha (P.trans R5.sub);refine Zd (Uy (Zd ?_));by_cases ab:i<items.length
 ·have hd:items[i]? = some items[i]:=Zj ab;rw[Jd ab] at H;obtain⟨go,yl⟩:=aA.1 _ hd
  refine ff (CH (T.item (De X scope (cloF X.env.cells scope.names []) C N' O (upd H1 D (.lst [])) fp) rfl rfl rfl a0 i [] s5 a7 Ha (λ_ _=>False) J5 (fx az) ay go) λr s6 ⟨u,hr,h6⟩=>?_);subst hr;refine Zd (ff (CH h6 λ_ s7 ⟨x,H7,J7,r7,y7,an,aN⟩=>?_));obtain⟨R,ae,R7,q7,aB,aC⟩:∃R,Same Fa R/\ER X.K Z Fc R H7 a7 ρ0/\Den X.K R items[i] x/\H7 D=some (.lst ys)/\R D=none:=by
   rcases yl x H7 y7 with⟨e,q⟩|⟨p,xs,ds,hp,e,ex,ed,q⟩
   ·subst e;exact⟨Fa,Same.refl _,R5,q.mono P,a8,a1⟩
   ·subst e ex;obtain⟨R8,s8⟩:=R5.lay (.tup xs) hp
    have aD:D≠p:=λz=>by subst z;rw[a8] at hp;cases hp
    refine⟨_,s8,R8,?_,by rw[Bg aD];exact a8,by rw[Bg aD];exact a1⟩
    rw[ed];exact Den.tup_mk (SqT.of Bh) ((q.mono P).mono s8)
  have J8:=J7.pinned (fx aN) (T.obj _ _ an);have aE:∀{s9:Shared}{B:L2.St}{S F9:Hp}{zs:List V}{more left:List DL.D},Inv (De X scope (cloF X.env.cells scope.names []) C N' O (upd H1 D (.lst [])) fp) ([]++eQ fp s7.heap) B S s9->ER X.K Z Fc F9 S B ρ0->Same F1 F9->F9 D=none->S D=some (.lst zs)->DenL X.K F9 more zs ->
    bG f (items.drop (i+1))=some left->more++left=res->more.length<=i+1 ->
    ∃m,m<items.length+1-i/\Li X scope C N' O H1 D fp tn items Z Fc F1 ρ0 f res m s9:=by
   intro s9 B S F9 zs more left J9 R9 aO aP aQ aR aS aT aU;refine⟨items.length+1-(i+1),by omega,i+1,B,S,F9,zs,more,left,J9.unpinned,?_,λb W=>?_,rfl,ab,R9,aO,aP,aQ,aR,aS,aT,aU⟩
   ·exact T.keep _ _ _ an λb W o e=>(J9.pin (b,o) (Yn _ (Yn _ (il W e)))).1
   ·obtain⟨o,e,_⟩:=T.obj _ _ an b W
    exact(J9.pin (b,o) (Yn _ (Yn _ (il W e)))).2.1
  unfold bG at H;cases hf:f items[i] with
  |none=>rw[hf] at H;cases H
  |some o=>
   rw[hf] at H;obtain⟨G,hG,ag,hO⟩:=av C O (upd H1 D (.lst [])) items[i] o (Kq ab) hf
   refine Zd (ff (CH (hG Z Fc _ s7 a7 H7 x u (λB S=>S=H7/\ER X.K Z Fc R H7 B G) J8 r7 ⟨J7.len,R,R7,q7,λB b4 R9=>⟨rfl,R9⟩⟩) λ_ s8 ⟨B,S,J9,e9,R9⟩=>?_));subst e9;have a2:∀k,D0 (De X scope (cloF X.env.cells scope.names []) C N' O (upd H1 D (.lst [])) fp) ifs G k ->
     wpAny (model X.prog X.w) X.A (forIn ifs true λc r=>if r=true then do let ok <-isTrue c (compEnvC scope (cloF X.env.cells scope.names []) C X.env) (eval c (compEnvC scope (cloF X.env.cells scope.names []) C X.env));pure (ForInStep.yield ok) else pure (ForInStep.yield r))
      (λok s'=>ok=k/\∃l g,Inv (De X scope (cloF X.env.cells scope.names []) C N' O (upd H1 D (.lst [])) fp) ([]++eQ fp s7.heap) B l s'/\Same R g/\ER X.K S R g l B G) (λ_ _=>False) s8:=by
    intro k hk;rcases hk with⟨e1,e2⟩|⟨c,e1,hT⟩
    ·subst e1 e2;exact wpAny_tests_nil ⟨rfl,S,R,J9,Same.refl _,R9.here⟩
    ·subst e1;refine wpAny_tests_one (CH (hT S R _ s8 B S (λb l=>b=k/\∃g,Same R g/\ER X.K S R g l B G) J9 ⟨R,R9.here,λl g L F=>⟨rfl,g,L,F⟩⟩) λb s' ⟨l,a3,aV,g,L,F⟩=>⟨aV,l,g,a3,L,F⟩)
   have a4:∀{g l:Hp}{σ':L2.St}{aF:CF},ER X.K S R g l σ' aF->l D=some (.lst ys)/\g D=none:=λ{g l σ' aF} F=>by
    refine⟨F.same D _ aB,?_⟩
    cases z:g D with
    |none=>rfl
    |some o=>
     rcases F.new D o z with w|w
     ·rw[aC] at w;cases w
     ·rw[aB] at w;cases w
   cases o with
   |none=>
    refine Zd (ff (CH (a2 false hO) λok s9 ⟨ao,l,g,a3,L,F⟩=>?_));subst ao;obtain⟨U,a5⟩:=a4 F
    refine Zu ⟨rfl,aE a3 ((R9.there F).fewer ag) ((P.trans ae).trans L) a5 U ((a9.mono ae).mono L) H aa vB⟩
   |some e=>
    obtain⟨hT,hE⟩:=hO
    obtain⟨left,ap,aq⟩:=Zb.mp H
    subst aq;refine Zd (ff (CH (a2 true hT) λok s9 ⟨ao,l,g,a3,L,F⟩=>?_));subst ao;obtain⟨U,a5⟩:=a4 F
    have ah:=R9.there F;rw[if_pos rfl];refine Zd (Zd (ff (CH (hE l g _ s9 B l (λv Y=>∃M,Same g M/\ER X.K l g M Y B G/\Den X.K M e v) a3 ⟨g,ah.here,λv Y M ar a6 as=>⟨M,ar,a6,as⟩⟩) λuv ar ⟨v,Y,aW,aX,M,ai,a6,as⟩=>?_)));have aG:Y D=some (.lst ys):=a6.same D _ U;have aj:M D=none:=by
     cases z:M D with
     |none=>rfl
     |some o=>
      rcases a6.new D o z with w|w
      ·rw[a5] at w;cases w
      ·rw[U] at w;cases w
    have b5:ys.length=done.length:=a9.length;have aH:=ah.there a6;refine Zd (ff (CH (kl _ ar B Y (.ref D) [v] (.ref D) [uv] (λ_ aI=>aI=upd Y D (.lst (ys++[v]))) aW rfl #v[aX] ⟨D,ys,v,rfl,rfl,aG,by omega,rfl⟩) λ_ b6 ⟨_,aI,aY,_,aZ⟩=>?_));subst aZ;refine Zu (Zu ⟨rfl,aE (zs:=ys++[v]) (more:=done++[e]) aY ((aH.mutF aj ax).fewer ag) (((P.trans ae).trans L).trans ai) aj Bh ((((a9.mono ae).mono L).mono ai).append (DenL.cons as DenL.nil)) ap (by rw[List.append_assoc];exact aa) (by rw[Z8,Js];omega)⟩)
 ·have e:i=items.length:=by omega
  subst e;rw[G5] at H;cases H;rw[Kc] at aa;subst aa;refine ff (CH (T.done (De X scope (cloF X.env.cells scope.names []) C N' O (upd H1 D (.lst [])) fp) rfl rfl rfl a0 _ [] s5 a7 Ha (λ_ _=>False) J5 (fx az) ay (aA.2 (Zn _))) λr s6 ⟨hr,J6⟩=>?_);subst hr;obtain⟨m,b0,_⟩:=J6.loc
  refine Zu (aw D C s6 Ha Fa ys m (sE I3 af J6) b0 J6.free CX.1 CX.2.1 CX.2.2.1 CX.2.2.2 P ⟨R5.sub,R5.same,R5.base,R5.new,λj d e=>?_⟩ a1 ax a8 a9);obtain⟨v,g1,g2⟩:=R1.env j d e
  exact⟨v,g1,g2.mono P⟩
def sG{u U t:Hp}{W:CF}{σ':L2.St}{RR:Value->Addr->Result->Shared->Prop}{E:Value->Shared->Prop}(I:Inv X pins σ H1 s2)(s:X.calm=true)(T:Turn X.prog X.w X.K tg J fp it tn)(h0:tn 0 s2.heap)(Y:∀b∈fp,CQ X pins H1 b)
 (Z:scope.kind=.function)(g:∀y∈scope.names,y.2 ≠ .cell)(l:∀y∈scope.names,y.2=.free->∃c,X.env.cells.lookup y.1=some c)
 (R1:ER X.K u U t H1 σ W)(hl:σ'.length=N'.length)(z:∀(i:Nat) d,ρ0[i]? = some (some d)->∃v,σ'[i]? = some (some v)/\Den X.K t d v)
 (hv:∀(i:Nat) (x:Str) (v:V),N'[i]? = some x->σ'[i]? = some (some v)->scope.names.lookup x=some .free/\X.env.kindOf x=some .cell/\∃j:Nat,X.N[j]? = some x/\σ[j]? = some (some v))
 (wk:Walks X.K t J items)(a0:items.length<=sizeLine)(B:bG f items=some res)
 (F:∀(C:Addr) (s₀:Shared) (H₀:Hp) (d:D) (o:Option D),d∈items->f d=some o->∃n,DGe (De X scope (cloF X.env.cells scope.names []) C N' s₀ H₀ fp) tg d ρ0 n/\(∀(i:Nat) d,ρ0[i]? = some (some d)->n[i]? = some (some d)) /\
   (match o with|none=>D0 (De X scope (cloF X.env.cells scope.names []) C N' s₀ H₀ fp) ifs n false|some e=>D0 (De X scope (cloF X.env.cells scope.names []) C N' s₀ H₀ fp) ifs n true/\DF (De X scope (cloF X.env.cells scope.names []) C N' s₀ H₀ fp) elt n e))
 (G:∀(D C:Addr) (s5:Shared) (H' R:Hp) (ys:List V) (m:Str->Option Value),Inv X pins σ H' s5->s5.heap.Ns C m->H' C=none->C≠X.env.locals->X.s₀.heap.objs.size<=C->(∀x c,X.env.cells.lookup x=some c->c≠C)->(∀p∈X.pn++pins,p.1≠C) ->
   Same t R->ER X.K u U R H' σ W->R D=none->u D=none->H' D=some (.lst ys)->DenL X.K R res ys->RR (.ref D) C (.ok .next) s5)
 {D:Addr}{h:Shared}(H:Inv X pins σ (upd H1 D (.lst [])) h)(L:∀b∈fp,∃o,h.heap.get? b=some o)(q:∀b∈fp,CQ X pins (upd H1 D (.lst [])) b)(a1:tn 0 h.heap)(S:ER X.K u U t (upd H1 D (.lst [])) σ W)(a2:t D=none)(a3:u D=none):
  wpAny (model X.prog X.w) X.A (newFunctionEnv scope X.env.globals (cloF X.env.cells scope.names []) [] X.env.qual none .none (some X.env)) (λr M=>
   codeAny (model X.prog X.w) X.A (.compStart (.ListComp elt [⟨tg,iter,ifs,0⟩] scope pos) 0 (.ref it) (.ref D) {r with scope:=relabel scope X.env}) (RR (.ref D) r.locals) M) E h:=by
 refine wpAny_newFunctionEnv g (by intro y hy;simp at hy) (λh4 O P=>?_) Z;have k4:∀b o,h.heap.get? b=some o->h4.get? b=some o:=λb o e=>P.extBut b o (Yj (Zo e)) (Ze _ e)
 have J4:=sD (t':=h.toks+([]:List (Str×Value)).length) (s':=h) (N':=N') H Z g l rfl q L O k4 hl hv;have Q:tn 0 h4:=T.keep 0 _ _ a1 λb hb o e=>k4 b o e
 have CX:h.heap.objs.size≠X.env.locals/\X.s₀.heap.objs.size<=h.heap.objs.size/\(∀x c,X.env.cells.lookup x=some c->c≠h.heap.objs.size)/\(∀p∈X.pn++pins,p.1≠h.heap.objs.size):=by
  obtain⟨_,b1,_,b3,b4,b5⟩:=H.fpOk (H':=upd H1 D (.lst [])) (b:=h.heap.objs.size) (Zn _) (H.hok.fresh (Zn _))
  exact⟨b1,H.sz,b4,b5⟩
 have loop:=sF (elt:=elt) (iter:=iter) (pos:=pos) (RR:=RR) (E:=E) I s T h0 Y Z g l R1 hl z hv wk a0 B F G H L q rfl J4 Q CX ⟨S.sub,S.same,S.base,S.new,z⟩ a2 a3;exact codeAny_compStart_list loop (T.self _ 0 _ _ _ Q loop)
def nC{K:vE}(hK:K=X.K){P Fc L:Hp}{ρ:CF}{σ':L2.St}{Q:Value->Addr->Result->Shared->Prop}{E:Value->Shared->Prop}(I:Inv X pins σ H1 s2)(n:X.calm=true)(T:Turn X.prog X.w X.K tg J fp it tn)(R:tn 0 s2.heap)(q:∀b∈fp,CQ X pins H1 b)
 (hk:scope.kind=.function)(r:∀y∈scope.names,y.2 ≠ .cell)(s:∀y∈scope.names,y.2=.free->∃c,X.env.cells.lookup y.1=some c)
 (R1:ER X.K P Fc L H1 σ ρ)(hl:σ'.length=N'.length)(S:∀(i:Nat) d,ρ0[i]? = some (some d)->∃v,σ'[i]? = some (some v)/\Den X.K L d v)
 (hv:∀(i:Nat) (x:Str) (v:V),N'[i]? = some x->σ'[i]? = some (some v)->scope.names.lookup x=some .free/\X.env.kindOf x=some .cell/\∃j:Nat,X.N[j]? = some x/\σ[j]? = some (some v))
 (wk:Walks X.K L J items)(U:items.length<=sizeLine)(t:bG f items=some res)
 (u:∀(C:Addr) (s₀:Shared) (H₀:Hp) (d:D) (o:Option D),d∈items->f d=some o->∃g,DGe (De X scope (cloF X.env.cells scope.names []) C N' s₀ H₀ fp) tg d ρ0 g/\(∀(i:Nat) d,ρ0[i]? = some (some d)->g[i]? = some (some d)) /\
   (match o with|none=>D0 (De X scope (cloF X.env.cells scope.names []) C N' s₀ H₀ fp) ifs g false|some e=>D0 (De X scope (cloF X.env.cells scope.names []) C N' s₀ H₀ fp) ifs g true/\DF (De X scope (cloF X.env.cells scope.names []) C N' s₀ H₀ fp) elt g e))
 (z:∀(D C:Addr) (Y:Shared) (M O:Hp) (ys:List V) (m:Str->Option Value),Inv X pins σ M Y->Y.heap.Ns C m->M C=none->C≠X.env.locals->X.s₀.heap.objs.size<=C->(∀x c,X.env.cells.lookup x=some c->c≠C)->(∀p∈X.pn++pins,p.1≠C) ->
   Same L O->ER X.K P Fc O M σ ρ->O D=none->P D=none->M D=some (.lst ys)->DenL X.K O res ys->Q (.ref D) C (.ok .next) Y):
  wpAny (model X.prog X.w) X.A (newList []) (λB F=>wpAny (model X.prog X.w) X.A (newFunctionEnv scope X.env.globals (cloF X.env.cells scope.names []) [] X.env.qual none .none (some X.env)) (λh G=>
   codeAny (model X.prog X.w) X.A (.compStart (.ListComp elt [⟨tg,iter,ifs,0⟩] scope pos) 0 (.ref it) B {h with scope:=relabel scope X.env}) (Q B h.locals) G) E F) E s2:=by
 have H:∀b∈fp,∃o,s2.heap.get? b=some o:=λb l=>by
  obtain⟨o,e,_⟩:=T.obj 0 _ R b l
  exact⟨o,e⟩
 have k3:∀b o,s2.heap.get? b=some o->(s2.heap.push {cls:=.type "list",data:=.seq ([]:List Value).toArray}).get? b=some o:=λb o e=>Ze _ e
 obtain⟨R3,Z,a0⟩:=R1.put (.lst []) (I.hok.fresh (Zn _))
 refine Jp ?_ (by show 0<=sizeLine;exact Y8 _);exact sG (elt:=elt) (iter:=iter) (pos:=pos) (RR:=Q) I n T R q hk r s R1 hl S hv wk U t u z (L2.Inv.lnew (its:=[]) (t':=s2.toks) I .nil (Y8 _)) (λb l=>let ⟨o,e⟩:=H b l;⟨o,k3 b o e⟩)
  (λb l=>⟨by rw[Bg (by obtain⟨o,e⟩:=H b l;exact Yj (Zo e))];exact(q b l).1,(q b l).2⟩) (T.keep 0 _ _ R λb l o e=>k3 b o e) R3 Z a0
end
def blkR{d:Type}(k:Nat)(fr:List Nat)(e:List (Option d)):List (Option d):=List.replicate k none++fr.map λi=>(e[i]?).bind id
def eV{f:Type}{k:Nat}{fr:List Nat}{e:List (Option f)}{i:Nat}{v:f}(h:(blkR k fr e)[i]? = some (some v)):∃m j,i=k+m/\fr[m]? = some j/\e[j]? = some (some v):=by
 unfold blkR at h;by_cases g:i<k
 ·rw[Yc (by rw[Yz];exact g),Wf] at h;split at h<;>cases h
 ·rw[Ye (by rw[Yz];omega),Yz,Zm] at h;cases q:fr[i-k]? with
  |none=>rw[q] at h;cases h
  |some j=>
   rw[q] at h;refine⟨i-k,j,by omega,q,?_⟩
   have d:(e[j]?).bind id=some v:=Zs h;cases z:e[j]? with
   |none=>rw[z] at d;cases d
   |some o=>rw[z] at d;cases o with
    |none=>cases d
    |some l=>exact congrArg some d
def nD{d:Type}{k:Nat}{fr:List Nat}{e:List (Option d)}{m j:Nat}{v:d}(f:fr[m]? = some j)(g:e[j]? = some (some v)):(blkR k fr e)[k+m]? = some (some v):=by
 unfold blkR;rw[Ye (by rw[Yz];omega),Yz,Zm,show k+m-k=m by omega,f];simp[g]
def nE{d:Type}{k:Nat}{fr:List Nat}{e:List (Option d)}:(blkR k fr e).length=k+fr.length:=by
 unfold blkR;rw[Z8,Yz,Zc]
open PySem L2 PyProof.Rows
section
variable{X:Cx}{e a b:Expr}{es:List Expr}{ρ:CF}{pos:Pos}{w:W}
def sH:Dk X (binaryOp .Add) (λx y H Q=>∃l b g i,x=.ref l/\y=.ref b/\SqL X.K H l g/\SqL X.K H b i/\g.length+i.length<=sizeLine/\∀p,H p=none->Q (.ref p) (upd H p (.lst (g++i)))):=by
 intro z s V H x y v u Q I D E h;obtain⟨l,b,g,i,rfl,rfl,G,J,W,q⟩:=h
 cases D;cases E;obtain⟨e,r,pl,Y⟩:=I.list G
 obtain⟨d,A,j,Z⟩:=I.list J
 obtain⟨⟨L,m,M,sl1⟩,n,B,N,O,P⟩:=pl
 obtain⟨⟨R,o,S,sl2⟩,T,f,t,C,w⟩:=j
 cases N;cases P;cases t;cases w
 have l1:=r.length;have l2:=A.length;have U:e.toArray++d.toArray=(e++d).toArray:=by simp
 refine concat_meets ⟨_,B,rfl⟩ ⟨_,f,rfl⟩ noFill_list_add seq_list_add PySem.F.slot_list_add PySem.F.entry_list_add (PySem.F.args_list_add_2 _ _) (list_addW l b e.toArray d.toArray n T m o sl1 sl2 (by simp only[Zr];omega)) ⟨B,f,?_⟩;rw[U];exact⟨.ref _,_,I.lnew (t':=s.toks) (r.append A) (by rw[Z8];omega),rfl,q _ I.fresh⟩
def DE.cat{l m:List D}(j:DF X a ρ (.lst l))(o:DF X b ρ (.lst m))(s:l.length+m.length<=sizeLine):DE X (.BinOp a .Add b pos) ρ (.new (l++m)):=λe f=>
 PE.mono (kh sH (j e f) (o e f)) (eS λH F K v u Q R t w k=>by
  obtain⟨p,g,z,A,r⟩:=t.lst
  obtain⟨B,h,C,d,i⟩:=w.lst
  subst z;subst C;refine⟨p,B,g,h,rfl,rfl,R.sub.seq A,R.sub.seq d,by rw[r.length,i.length];exact s,λq E=>?_⟩
  obtain⟨G,I,J⟩:=R.put (.lst (g++h)) E
  exact k _ _ _ (Same.refl _) G (RW.n I J Bh (r.append i)))
def sI{l:List D}:bV X (.type "list") [.lst l] (.new l):=⟨_,m7,λo s H F t ρ u Q R q k=>by
 obtain⟨v,e,q⟩:=q.one
 obtain⟨p,d,f,g,r⟩:=q.lst
 rw[f] at e;refine⟨p,d,e,.inl (R.sub.seq g),λw h=>?_⟩
 obtain⟨i,j,m⟩:=R.put (.lst d) h
 exact k _ _ _ (Same.refl _) i (RW.n j m Bh r)⟩
def sJ{l:List D}:bV X (.type "list") [.tup l] (.new l):=⟨_,m7,λo s H F t ρ u Q R q k=>by
 obtain⟨v,e,q⟩:=q.one
 obtain⟨p,d,f,g,r⟩:=q.tup
 rw[f] at e;refine⟨p,d,e,.inr (Same.tup R.sub g),λw h=>?_⟩
 obtain⟨i,j,m⟩:=R.put (.lst d) h
 exact k _ _ _ (Same.refl _) i (RW.n j m Bh r)⟩
def sL{i j:Int}(d:X.calm=true):bV X (.builtin "min") [.int i,.int j] (.val (.int (if j<i then j else i))):=⟨_,qZ d,λh l H F m ρ n Q R q k=>by
 obtain⟨v,u,e,f,g⟩:=q.two
 rw[f.int,g.int] at e;exact⟨i,j,e,k _ H F (Same.refl _) R RW.int⟩⟩
def sM{i j:Int}(d:X.calm=true):bV X (.builtin "max") [.int i,.int j] (.val (.int (if i<j then j else i))):=⟨_,qY d,λh l H F m ρ n Q R q k=>by
 obtain⟨v,u,e,f,g⟩:=q.two
 rw[f.int,g.int] at e;exact⟨i,j,e,k _ H F (Same.refl _) R RW.int⟩⟩
end
section
variable{X:Cx}{e:Expr}{ρ:CB}{pos:Pos}
def iG{K:vE}{f g F H:Hp}{e:L2.St}(S:SR K f g F H e ρ){i:Nat}{l:List D}(h:ρ[i]? = some (some (.ow l))):∃a d,e[i]? = some (some (.ref a))/\H a=some (.lst d)/\DenL K F l d:=by
 obtain⟨a,d,p,_,_,j,m⟩:=S.own i l h
 exact⟨a,d,p,j,m⟩
def DS.app{i:Nat}{x:Str}{l:List D}{d:D}{p o r B:Pos}(C:X.N[i]? = some x)(E:DX X.env.scope x)(G:(x == ("__debug__" : Str))=false)(m:(x == ("__classdict__" : Str))=false)(g:ρ[i]? = some (some (.ow l)))(I:DE X e (view ρ) (.val d))(n:Bd e=true)(J:lf d=true)(K:l.length<sizeLine)
 (f:(o.endLine == r.line)=true):DS X (.Expr (.Call (.Attribute (.Name x p) "append" o) [e] [] r) B) ρ (.nx (ρ.set i (some (.ow (l++[d]))))):=λL M=>
 PS.mono (fP (iv F.plainAttrs_list slot_list_append F.type_list_append kl (bA C E G m) (cc (I L M) cJ (Bj n)) rfl (by rw[Bj n];rfl) f (Bj n) rfl) rfl) λD O H ⟨F,S,k⟩=>by
  obtain⟨a,h,j,s,P⟩:=iG S g
  obtain⟨Y,R⟩:=S.borrow
  refine⟨_,j,.inl ⟨rfl,h,SqL.of s⟩,_,R,λv Q Z t R2 q=>?_⟩
  obtain⟨T,U,u,V⟩:=S.back t R2 q J
  obtain⟨a',W,w,z,g3⟩:=iG u g
  rw[j] at w;cases w;have A:Q a=some (.lst h):=by
   have:=t a (.lst h) (by unfold DL.borrow;rw[if_pos ⟨i,l,g,j⟩];exact s)
   exact R2.sub _ _ this
  rw[A] at z;cases z;refine⟨a,h,v,rfl,rfl,A,by rw[P.length];exact K,k O _ T U (u.mut g j (g3.append (DenL.cons V DenL.nil)))⟩
theorem DenL.set{K:vE}{F:Hp}{d:D}{v:V}(q:Den K F d v):∀{l:List D}{f:List V}(n:Nat),DenL K F l f->DenL K F (l.set n d) (f.set n v)
 |[],_,n,h=>by rw[h.inv_nil];simpa using DenL.nil
 |e::l,_,0,h=>by
  obtain⟨u,i,z,g,r⟩:=h.inv_cons
  subst z;exact DenL.cons q r
 |e::l,_,n+1,h=>by
  obtain⟨u,i,z,g,r⟩:=h.inv_cons
  subst z;exact DenL.cons g (DenL.set q n r)
def DS.seti{i n:Nat}{x:Str}{l:List D}{d:D}{j:Int}{p sp u:Pos}{k:Expr}(J:X.N[i]? = some x)(L:DX X.env.scope x)(M:(x == ("__debug__" : Str))=false)(h:(x == ("__classdict__" : Str))=false)(f:ρ[i]? = some (some (.ow l)))(O:DE X e (view ρ) (.val d))(P:DF X k (view ρ) (.int j))(Q:lf d=true)(T:ixN l.length j=some n)
 (m:eT k=true)(o:swapsWithSole [.Subscript (.Name x p) k sp] e u.line X.env=pure false)(U:swappedStores [.Subscript (.Name x p) k sp] e X.env=pure none):DS X (.Assign [.Subscript (.Name x p) k sp] e u) ρ (.nx (ρ.set i (some (.ow (l.set n d))))):=λr w=>
 PS.mono (mM (O r w) (GD (bA J L M h) (P r w) rL (by intro v;cases k<;>first|rfl|(cases m;done))) o U rfl) λD z H ⟨F,S,V⟩=>by
  obtain⟨a,s,g,W,Y⟩:=iG S f
  obtain⟨s0,R⟩:=S.borrow
  have Z:Owned z ρ a:=⟨i,l,f,g⟩;refine⟨_,R,λv H2 F2 A R2 q=>?_⟩
  refine⟨.ref a,g,F2,R2,λkv H3 F3 t B q3=>?_⟩
  obtain⟨F4,s4,C,q4⟩:=S.back (A.trans t) B (show RW X.K r F3 H3 (.val d) v from Den.mono t d q) Q
  obtain⟨a',a0,E,G,g3⟩:=iG C f
  rw[g] at E;cases E;have I:H3 a=some (.lst s):=by
   have:=(A.trans t) a (.lst s) (by unfold DL.borrow;rw[if_pos Z];exact W)
   exact B.sub _ _ this
  rw[I] at G;cases G;refine⟨a,s,j,n,rfl,q3.int,I,by rw[Y.length];exact T,V z _ F4 s4 (C.mut f g (DenL.set q4 n g3))⟩
end
end DL
namespace DL
open PySem
section
variable{prog:Program}{w:World}{A:Around}{E:Value->Shared->Prop}{s:Shared}
end
section
variable{prog:Program}{w:World}{A:Around}{E:Value->Shared->Prop}{s:Shared}
end
section
variable{prog:Program}{w:World}{A:Around}{E:Value->Shared->Prop}{s:Shared}
end
section
variable{prog:Program}{w:World}{A:Around}{E:Value->Shared->Prop}{s:Shared}
end
section
variable{prog:Program}{w:World}{A:Around}{E:Value->Shared->Prop}{s:Shared}
end
section
variable{prog:Program}{w:World}{A:Around}{E:Value->Shared->Prop}{s:Shared}
end
end DL
namespace DL
open PySem PySem.W PyProof.Rows
section
variable{b:Nat->Nat->Bool}{N:Nat}{p:Array Nat}
section
variable{cmp:Nat->Nat->(Bool->Shared->Prop)->Shared->Prop}{s:Shared}
end
end
def ltK:List Int->List Int->Bool
 |[a,b],[c,d]=>decide (a<c) || (decide (a=c) && decide (b<d))
 |_,_=>false
def D6:List Int->Bool
 |[_,_]=>true
 |_=>false
theorem GX:∀x y z,ltK x y=true->ltK y z=true->ltK x z=true
 |[a,b],[c,d],[e,f],g,h=>by
  simp only[ltK,U6,Zl,decide_eq_true_eq] at g h |-;omega
theorem sN:∀x y,D6 x=true->D6 y=true->x≠y->ltK x y=true\/ltK y x=true
 |[a,b],[c,d],_,_,h=>by
  simp only[ltK,U6,Zl,decide_eq_true_eq];have:¬(a=c/\b=d):=λ⟨e,f⟩=>h (by rw[e,f])
  omega
section
variable{prog:Program}{w:World}{A:Around}{E:Value->Shared->Prop}{s:Shared}
end
section
variable{prog:Program}{w:World}{A:Around}{E:Value->Shared->Prop}{s:Shared}
end
open PySem L2 PyProof.Rows
def insK(k:List Int):List (List Int)->List (List Int)
 |[]=>[k]
 |x::l=>if ltK k x=true then k::x::l else if k=x then x::l else x::insK k l
def EY:List (List Int)->List (List Int)
 |[]=>[]
 |k::l=>insK k (EY l)
abbrev HY(l:List (List Int)):Prop:=l.Pairwise λx y=>ltK x y=true
theorem insK_mem{k x:List Int}:∀{l:List (List Int)},x∈insK k l↔x=k\/x∈l
 |[]=>by simp[insK]
 |y::l=>by
  unfold insK;split
  ·simp
  ·split
   ·rename_i e;subst e;simp
   ·rw[Zf,insK_mem,Zf];constructor
    ·rintro(h|h|h)
     ·exact .inr (.inl h)
     ·exact .inl h
     ·exact .inr (.inr h)
    ·rintro(h|h|h)
     ·exact .inr (.inl h)
     ·exact .inl h
     ·exact .inr (.inr h)
theorem nF{k:List Int}(g:D6 k=true):∀{l:List (List Int)},(∀x∈l,D6 x=true)->HY l->HY (insK k l)
 |[],_,_=>Wx _ _
 |y::l,h,f=>by
  obtain⟨i,j⟩:=We.mp f
  unfold insK;split
  ·rename_i e;refine We.mpr ⟨λx d=>?_,f⟩;rcases Zf.mp d with q|q
   ·rw[q];exact e
   ·exact GX _ _ _ e (i x q)
  ·rename_i e;split
   ·exact f
   ·rename_i m;refine We.mpr ⟨λx d=>?_,nF g (λx d=>h x (.tail _ d)) j⟩;rcases insK_mem.mp d with q|q
    ·rw[q];exact(sN k y g (h y (.head _)) m).resolve_left e
    ·exact i x q
theorem ssK_mem{x:List Int}:∀{l:List (List Int)},x∈EY l↔x∈l
 |[]=>Iff.rfl
 |k::l=>by
  unfold EY;rw[insK_mem,ssK_mem,Zf]
theorem nG:∀{l:List (List Int)},(∀x∈l,D6 x=true)->HY (EY l)
 |[],_=>List.Pairwise.nil
 |k::l,h=>nF (h k (.head _)) (λx d=>h x (.tail _ (ssK_mem.mp d))) (nG λx d=>h x (.tail _ d))
section
variable{X:Cx}{e:Expr}{es:List Expr}{ρ:CF}{pos:Pos}{w:W}
end
open PySem L2 PyProof.Rows
section
variable{prog:Program}{w:World}{A:Around}{E:Value->Shared->Prop}{s:Shared}
end
section
variable{X:Cx}{e:Expr}{es:List Expr}{ρ:CF}{pos:Pos}{w:W}
def sO{x y:Str}{p F n:Pos}{f g:String}{t:TA}{r:List V->Hp->VK->Prop}(G:∀d s i H j us Q,Inv X d i H s->Vals j us->r j H Q->wpAny (model X.prog X.w) X.A (call (.type g) us) (λm o=>wpAny (model X.prog X.w) X.A (call (.type f) [m]) (EP X d i Q) X.xe o) X.xe s)
 (J:Gl X x)(q:X.mg x=none)(K:bootBuiltins x=some (.type f))(L:x ≠ "__name__")(u:(x == ("__debug__" : Str))=false)(v:Gl X y)(z:X.mg y=none)(B:bootBuiltins y=some (.type g))(C:y ≠ "__name__")(l:(y == ("__debug__" : Str))=false)(M:PA X (e::es) t)(N:Bd e=true)(D:es.all Bd=true):
  PE X (.Call (.Name x p) [.Call (.Name y F) (e::es) [] n] [] pos) (λi H Q=>t i H λj E=>r j E Q):=by
 intro d s i H Q I h;refine Qu (cU I J q K ?_ L u);refine Y3 ?_;show wpAny _ _ (spliced ((false,eval (.Call (.Name y F) (e::es) [] n) X.env)::backTo pos (starEach [] X.env))) _ _ s;refine V8 ?_;refine Qu (cU I v z B ?_ C l);refine Y3 (CH (M n d s i H _ I h) λus o ⟨j,E,O,P,R⟩=>?_) (Bj N) (fV D);exact CH (G d o i E j us Q O P R) λm S q=>Gj q
def nH(X:Cx)(f g:Value)(q:List D)(w:W):Prop:=∃r:List V->Hp->VK->Prop,(∀d s e H h n Q,Inv X d e H s->Vals h n->r h H Q->wpAny (model X.prog X.w) X.A (call g n) (λm t=>wpAny (model X.prog X.w) X.A (call f [m]) (EP X d e Q) X.xe t) X.xe s) /\
 ∀(i o H F:Hp) (e:L2.St) (ρ:CF) (h:List V) (Q:VK),ER X.K i o F H e ρ->DenL X.K F q h->(∀p j l,Same F l->ER X.K i o l j e ρ->RW X.K i l j w p->Q p j)->r h H Q
def DE.nestT{x y:Str}{p t u:Pos}{f g:String}{o:List D}(v:nH X (.type f) (.type g) o w)(z:Gl X x)(A:X.mg x=none)(B:bootBuiltins x=some (.type f))(C:x ≠ "__name__")(h:(x == ("__debug__" : Str))=false)(i:Gl X y)(j:X.mg y=none)(l:bootBuiltins y=some (.type g))(m:y ≠ "__name__")(d:(y == ("__debug__" : Str))=false)
 (E:DA X (e::es) ρ o)(G:Bd e=true)(n:es.all Bd=true):DE X (.Call (.Name x p) [.Call (.Name y t) (e::es) [] u] [] pos) ρ w:=λq s=>by
 obtain⟨r,I,J⟩:=v
 refine PE.mono (sO I z A B C h i j l m d (E q s) G n) λK H Q ⟨F,R,k⟩=>⟨F,R,λL M N O P S=>?_⟩
 exact J q s M N K ρ L Q P S λT U V W Y Z=>k T U V (O.trans W) Y Z
theorem DenL.rev{K:vE}{F:Hp}:∀{l:List D}{f:List V},DenL K F l f->DenL K F l.reverse f.reverse
 |[],_,h=>by rw[h.inv_nil];exact DenL.nil
 |d::l,_,h=>by
  obtain⟨v,g,e,q,r⟩:=h.inv_cons
  subst e;rw[Gp,Gp];exact(DenL.rev r).append (DenL.cons q DenL.nil)
def sP{l:List D}:bV X (.type "tuple") [.lst l] (.val (.tup l)):=⟨_,rP,λj m H F n ρ o Q R q k=>by
 obtain⟨v,e,q⟩:=q.one
 obtain⟨p,d,g,h,r⟩:=q.lst
 rw[g] at e;refine⟨p,d,e,.inl ⟨R.sub.seq h,λs i=>?_⟩⟩
 obtain⟨R2,f⟩:=R.lay (.tup d) i
 exact k _ _ _ f R2 (RW.v (Den.tup_mk (SqT.of Bh) (r.mono f)))⟩
end
open PySem L2 PyProof.Rows
section
variable{prog:Program}{w:World}{A:Around}{E:Value->Shared->Prop}{s:Shared}
abbrev DB(h:Heap)(z TI TO T:Addr)(d:Bool):Prop:=
 h.get? z=some {cls:=.type "zip",dict:=none,data:=.fields #[rawInt T,.bool d,.bool false,.ref TI,.ref TO],slots:=#[]}
def sQ{a:Addr}{Q:Option Obj->Shared->Prop}(h:Q (s.heap.get? a) s):wpAny (model prog w) A (loadIfAlive a) Q E s:=λ_ _ _=>h
def nI{z TI TO T:Addr}{g:Bool}{Q:Bool->Shared->Prop}(f:DB s.heap z TI TO T g)(l:∃o,s.heap.get? T=some o)(h:∀i,DB i z TI TO T true->Heap.SameBut z s.heap i->Q false {s with heap:=i}):
  wpAny (model prog w) A (Builtin.SmallTypes.ownedTupleIsFree (.ref z)) Q E s:=by
 obtain⟨o,m⟩:=l
 unfold Builtin.SmallTypes.ownedTupleIsFree;refine Zd (Wa f rfl (x:=rawInt T) rfl ?_);show wpAny _ _ (loadIfAlive ((T:Int)).toNat >>= _) _ _ _;rw[Zz];refine Zd (sQ ?_);rw[m];simp only[Option.isNone_some,Wv,if_false];refine Zd (Wa f rfl (x:=.bool g) rfl ?_);cases g with
 |true=>
  exact Zd (Zu (Zu (h _ f ⟨rfl,λ_ _=>rfl⟩)))
 |false=>
  refine Zd (Qt f vC λj d e=>?_);exact Zu (h _ d e)
structure ZA(z TI i1 i2 l1 l2:Addr):Prop where
 TIz:TI≠z
 i1z:i1≠z
 i2z:i2≠z
 TIi1:TI≠i1
 TIi2:TI≠i2
 i12:i1≠i2
 l1z:l1≠z
 l1i1:l1≠i1
 l1i2:l1≠i2
 l2z:l2≠z
 l2i1:l2≠i1
 l2i2:l2≠i2
def sR{z TI TO T j l l1 l2:Addr}{S:Bool}{B C:Nat}{M N:Array Value}{x y:Value}{Q:Option Value->Shared->Prop}(D:ZA z TI j l l1 l2)(v:DB s.heap z TI TO T S)(U:∃o,s.heap.get? T=some o)(F:IsPair s.heap TI (.ref j) (.ref l))
 (V:s.heap.IsListIter j l1 B)(W:s.heap.IsListIter l l2 C)(G:s.heap.IsList l1 M)(H:s.heap.IsList l2 N)(X:M[B]? = some x)(Y:N[C]? = some y)
 (Z:∀m,DB m z TI TO T true->m.IsListIter j l1 (B+1)->m.IsListIter l l2 (C+1)->IsPair m s.heap.objs.size x y->m.objs.size=s.heap.objs.size+1 ->
   (∀c o,c≠z->c≠j->c≠l->s.heap.get? c=some o->m.get? c=some o)->Q (some (.ref s.heap.objs.size)) {s with heap:=m}):
  wpAny (model prog w) A (pyNext (.ref z)) Q E s:=by
 have u:s.TypeIs (.ref z) "zip" := ⟨_,v,rfl⟩;unfold pyNext;refine Zd (Uz (wpAny_callSpecial?_slot (name:=Str.ofString "__next__") u Qe (Kb Qe u Jt ?_ (Jn _))));show wpAny _ _ (field (.ref z) 2 >>= _) _ _ _;refine Zd (Wa v rfl (x:=.bool false) rfl ?_);show wpAny _ _ (field (.ref z) 3 >>= _) _ _ _;refine Zd (Wa v rfl (x:=.ref TI) rfl ?_);refine Zd (Wj F rfl ?_);show wpAny _ _ (Builtin.SmallTypes.ownedTupleIsFree (.ref z) >>= _) _ _ _;refine Zd (nI v U λO n d=>?_);simp only[Wv,if_false];refine Zd ?_;rw[<-V9];simp only[Kw,J0];refine Zd (Zd (Qn ?_));show wpAny _ _ (Builtin.SmallTypes.nextOf (.ref j) >>= _) _ _ _;refine Zd (Jx (V.extBut d.extBut D.i1z) (G.extBut d.extBut D.l1z) X λP p h=>Zu (Zu ?_));refine Zd (Zd (Qn ?_));show wpAny _ _ (Builtin.SmallTypes.nextOf (.ref l) >>= _) _ _ _;refine Zd (Jx ((W.extBut d.extBut D.i2z).extBut h.extBut D.i12.symm) ((H.extBut d.extBut D.l2z).extBut h.extBut D.l2i1) Y λf q i=>Zu (Zu (Zu ?_)));refine Zd (wpAny_newTuple ?_ (by show 2<=sizeLine;decide));have I:f.objs.size=s.heap.objs.size:=by rw[i.1,h.1,d.1]
 have kp:∀c o,c≠z->c≠j->c≠l->s.heap.get? c=some o->f.get? c=some o:=λc o J K L e=>i.extBut _ _ L (h.extBut _ _ K (d.extBut _ _ J e))
 have r:DB f z TI TO T true:=i.extBut _ _ D.i2z.symm (h.extBut _ _ D.i1z.symm n);have t:=p.extBut i.extBut D.i12;refine Zu ⟨_,rfl,Zu ?_⟩;show Q (some (.ref f.objs.size)) _;have g:(f.push {cls:=.type "tuple",data:=.seq #[x,y]}).get? f.objs.size=some {cls:=.type "tuple",data:=.seq #[x,y]}:=Z4 _ rfl;have R:(f.push {cls:=.type "tuple",data:=.seq #[x,y]}).objs.size=f.objs.size+1:=Ql ..;rw[I] at g R |-;exact Z _ (Ze _ r) (t.at λo e=>Ze _ e) (q.at λo e=>Ze _ e) g R λc o J K L e=>Ze _ (kp c o J K L e)
def sS{z TI TO T g i l1 l2:Addr}{B:Bool}{p C:Nat}{q F:Array Value}{Q:Option Value->Shared->Prop}(r:A.handled=none)(D:ZA z TI g i l1 l2)(j:DB s.heap z TI TO T B)(G:∃o,s.heap.get? T=some o)(l:IsPair s.heap TI (.ref g) (.ref i))
 (H:s.heap.IsListIter g l1 p)(R:s.heap.IsListIter i l2 C)(m:s.heap.IsList l1 q)(I:s.heap.IsList l2 F)(J:q[p]? = none)
 (K:∀t,(∀c o,c≠z->c≠g->c≠i->s.heap.get? c=some o->t.get? c=some o)->Q none {s with heap:=t}):wpAny (model prog w) A (pyNext (.ref z)) Q E s:=by
 have h:s.TypeIs (.ref z) "zip" := ⟨_,j,rfl⟩;unfold pyNext;refine Zd (Uz (wpAny_callSpecial?_slot (name:=Str.ofString "__next__") h Qe (Kb Qe h Jt ?_ (Jn _))));show wpAny _ _ (field (.ref z) 2 >>= _) _ _ _;refine Zd (Wa j rfl (x:=.bool false) rfl ?_);show wpAny _ _ (field (.ref z) 3 >>= _) _ _ _;refine Zd (Wa j rfl (x:=.ref TI) rfl ?_);refine Zd (Wj l rfl ?_);show wpAny _ _ (Builtin.SmallTypes.ownedTupleIsFree (.ref z) >>= _) _ _ _;refine Zd (nI j G λu n d=>?_);simp only[Wv,if_false];refine Zd ?_;rw[<-V9];simp only[Kw,J0];refine Zd (Zd (Qn ?_));show wpAny _ _ (Builtin.SmallTypes.nextOf (.ref g) >>= _) _ _ _;refine Zd (Gv (by first|exact r|simp[r]) (H.extBut d.extBut D.i1z) (m.extBut d.extBut D.l1z) J λv e f L=>?_);obtain⟨o,M,N⟩:=L
 refine Zd (wpAny_isInstance (T := "StopIteration") (b:=true) ⟨o,M,N⟩ isSubtype_stop ?_);exact Zu (K _ λc o O P S e=>f _ _ P (d.extBut _ _ O e))
def ku(h:Heap)(d e:Array Value)(f:List Addr):Prop:=∀(j:Nat) (t:Addr),f[j]? = some t->∃x y,d[j]? = some x/\e[j]? = some y/\IsPair h t x y
def sU{R:Result->Shared->Prop}{S z TI TO u v l1 l2:Addr}{m O:Array Value}(res:Value)(hh:A.in1.handled=none)(D:ZA z TI u v l1 l2)(a8:m.size=O.size)(hz:m.size<=sizeLine)(hS:∀b∈[z,TI,TO,u,v,l1,l2],S≠b):
  ∀(k i:Nat) (s:Shared) (d:Array Value) (c:Nat) (g:List Addr) (T:Addr) (f1:Bool),m.size-i=k->i<=m.size->DB s.heap z TI TO T f1->T∈g->IsPair s.heap TI (.ref u) (.ref v)->s.heap.IsListIter u l1 i->s.heap.IsListIter v l2 i->s.heap.IsList l1 m->s.heap.IsList l2 O ->
   s.heap.get? S=some {cls:=.type "list",dict:=none,data:=.seq d c,slots:=#[]}->d.toList=g.map Value.ref->g.length=i->ku s.heap m O g->(∀t∈g,t≠z/\t≠u/\t≠v/\t≠S)->g.Nodup ->
   (∀p tk h c' f,(∀b o,b≠S->b≠z->b≠u->b≠v->s.heap.get? b=some o->p.get? b=some o)->p.get? S=some {cls:=.type "list",dict:=none,data:=.seq h c',slots:=#[]}->h.toList=f.map Value.ref->f.length=m.size->ku p m O f->(∀t∈f,t∈g\/s.heap.objs.size<=t)->f.Nodup->R (.ok (.ret res)) {s with heap:=p,toks:=tk}) ->
   codeAny (model prog w) A (.builtin "list.extend.loop" ⟨[.ref S,.ref z,res],[]⟩) R s:=by
 intro k;have sz:S≠z:=hS z vC;have s1:S≠u:=hS u vC;have s2:S≠v:=hS v vC;have sT:S≠TI:=hS TI vC;have sl1:S≠l1:=hS l1 vC;have sl2:S≠l2:=hS l2 vC;induction k with
 |zero=>
  intro i s d c g T f1 hk hi Y Z B h1 h2 C E F G l P H L hR;have e:i=m.size:=by omega
  subst e;refine Kh Up ?_;rw[Qc Qm _];show wpAny _ A.in1 (pyNext (.ref z) >>= _) _ _ s;have aT:∃o,s.heap.get? T=some o:=by
   obtain⟨j,Q⟩:=Qx Z
   obtain⟨x,y,_,_,e⟩:=P j T Q
   exact⟨_,e⟩
  refine Zd (sS hh D Y aT B h1 h2 C E vC λp r=>?_);exact Zu (hR p s.toks d c g (λb o _ b2 b3 b4 e=>r b o b2 b3 b4 e) (r S _ sz s1 s2 F) G l (λj t e=>by
   obtain⟨x,y,U,V,M⟩:=P j t e
   obtain⟨t1,t2,t3,_⟩:=H t (Yh e)
   exact⟨x,y,U,V,r t _ t1 t2 t3 M⟩) (λt I=>.inl I) L)
 |succ k ih=>
  intro i s d c g T f1 hk hi Y Z B h1 h2 C E F G l P H L hR;have N:i<m.size:=by omega
  refine Kh Up ?_;rw[Qc Qm _];show wpAny _ A.in1 (pyNext (.ref z) >>= _) _ _ s;have aT:∃o,s.heap.get? T=some o:=by
   obtain⟨j,Q⟩:=Qx Z
   obtain⟨x,y,_,_,e⟩:=P j T Q
   exact⟨_,e⟩
  have hx:m[i]? = some (m[i]'N):=Q2 N;have hy:O[i]? = some (O[i]'vB):=Q2 vB;refine Zd (sR D Y aT B h1 h2 C E hx hy λp a1 a2 a3 a4 a5 r=>?_);have W:=r S _ sz s1 s2 F;have X:d.size=i:=by
   have:=congrArg List.length G
   rw[J2,Zc,l] at this;exact this
  have K:S<s.heap.objs.size:=Zo F;show wpAny _ A.in1 (updateSeq S (·.push (.ref s.heap.objs.size)) >>= _) _ _ _;have up:∀b o,b≠S->p.get? b=some o->(p.update S (Obj.mapSeq (·.push (.ref s.heap.objs.size)))).get? b=some o:=λb o hb e=>(Yu _ _ (Wz hb)).trans e
  have J:∀{b o},s.heap.get? b=some o->b≠s.heap.objs.size:=λe=>Yj (Zo e)
  refine Zd ?_;refine Qz W rfl (Zu ⟨Kg Qm _,ih (i+1) _ (d.push (.ref s.heap.objs.size)) _ (g++[s.heap.objs.size]) T true vB N (up z _ (Wz sz) a1) (Qw _ Z) (up TI _ (Wz sT) (r TI _ D.TIz D.TIi1 D.TIi2 B)) (a2.at λo e=>up u o (Wz s1) e) (a3.at λo e=>up v o (Wz s2) e)
   (C.at λo e=>up l1 o (Wz sl1) (r l1 o D.l1z D.l1i1 D.l1i2 e)) (E.at λo e=>up l2 o (Wz sl2) (r l2 o D.l2z D.l2i1 D.l2i2 e)) (Wr _ W rfl) ?_ (by rw[Z8,l];rfl) ?_ ?_ ?_ ?_⟩) (by rw[X];omega) (by show(d.push _).size<=sizeLine+1;rw[Array.size_push,X];omega)
  ·rw[Array.toList_push,G,Yl];rfl
  ·intro j t e;rcases Yk j g.length with q|q
   ·rw[Yc q] at e;obtain⟨x,y,U,V,M⟩:=P j t e
    obtain⟨t1,t2,t3,t4⟩:=H t (Yh e)
    exact⟨x,y,U,V,up t _ t4 (r t _ t1 t2 t3 M)⟩
   ·rw[Ye q] at e;have e0:j-g.length=0:=by
     cases q2:j-g.length with
     |zero=>rfl
     |succ n=>rw[q2] at e;simp at e
    rw[e0] at e;simp at e
    subst e;have ej:j=i:=by omega
    subst ej;exact⟨_,_,hx,hy,up _ _ (Yd K) a4⟩
  ·intro t I;rcases Yw.mp I with I|I
   ·exact H t I
   ·rw[Zx.mp I];refine⟨(J Y).symm,?_,?_,(Yd K)⟩
    ·obtain⟨_,e,_⟩:=h1;exact(J e).symm
    ·obtain⟨_,e,_⟩:=h2;exact(J e).symm
  ·refine Us.mpr ⟨L,Wx _ _,λa ha b hb e=>?_⟩;rw[Zx.mp hb] at e;obtain⟨j,Q⟩:=Qx ha
   obtain⟨x,y,_,_,M⟩:=P j a Q
   exact J M e
  ·intro a0 tk h c' f a6 U V M e4 e5 e6;have a7:(p.update S (Obj.mapSeq (·.push (.ref s.heap.objs.size)))).objs.size=s.heap.objs.size+1:=by rw[Ks,a5]
   refine hR a0 tk h c' f (λb o b1 b2 b3 b4 e=>a6 b o b1 b2 b3 b4 (up b o b1 (r b o b2 b3 b4 e))) U V M e4 (λt I=>?_) e6;rcases e5 t I with q|q
   ·rcases Yw.mp q with q|q
    ·exact .inl q
    ·exact .inr (by rw[Zx.mp q];exact Zn _)
   ·exact .inr (by
     have q':(p.update S (Obj.mapSeq (·.push (.ref s.heap.objs.size)))).objs.size<=t:=q;rw[a7] at q';exact Nat.le_of_succ_le q')
def sV:typeLookup (.type "zip") "__len__" = pure none:=by rw[typeLookup_type,Gx];kernel_rfl
def sW:typeLookup (.type "zip") "__length_hint__" = pure none:=by rw[typeLookup_type,Gx];kernel_rfl
def Md{a b:Nat}(h:a≠b):@Ne Addr a b:=h
def Ih{n l1 l2:Nat}(d:l1<n)(e:l2<n):ZA (n+4) (n+2) n (n+1) l1 l2:=by
 refine⟨?_,?_,?_,?_,?_,?_,?_,?_,?_,?_,?_,?_⟩<;>exact Md vB
def nJ{n l1 l2:Nat}(d:l1<n)(e:l2<n):ZipApart (n+4) (n+2) (n+3) n (n+1) l1 l2:=by
 refine⟨?_,?_,?_,?_,?_,?_,?_,?_,?_,?_,?_,?_,?_,?_,?_,?_,?_,?_⟩<;>exact Md vB
def sY{z TI TO C G l1 l2:Addr}{r V:Array Value}{Q:Value->Shared->Prop}(hh:A.handled=none)(D:ZA z TI C G l1 l2)(g:ZipApart z TI TO C G l1 l2)(af:r.size=V.size)(hz:r.size<=sizeLine)
 (hZ:IsZip s.heap z TI TO .none)(W:IsPair s.heap TI (.ref C) (.ref G))(X:IsPair s.heap TO .none .none)(h1:s.heap.IsListIter C l1 0)(h2:s.heap.IsListIter G l2 0)(Y:s.heap.IsList l1 r)(Z:s.heap.IsList l2 V)
 (hQ:∀i tk a0 c ts,(∀b o,b≠z->b≠TO->b≠C->b≠G->s.heap.get? b=some o->i.get? b=some o)->i.get? s.heap.objs.size=some {cls:=.type "list",dict:=none,data:=.seq a0 c,slots:=#[]}->a0.toList=ts.map Value.ref->ts.length=r.size->ku i r V ts->(∀t∈ts,s.heap.objs.size<t)->ts.Nodup->Q (.ref s.heap.objs.size) {s with heap:=i,toks:=tk}):
  wpAny (model prog w) A (call (.type "list") [.ref z]) Q E s:=by
 have f:∀{b o},s.heap.get? b=some o->b<s.heap.objs.size:=λe=>Zo e
 have v:=f hZ;have K:=f W;have B:=f X;have l:C<s.heap.objs.size:=by obtain⟨_,e,_⟩:=h1;exact f e
 have m:G<s.heap.objs.size:=by obtain⟨_,e,_⟩:=h2;exact f e
 have L:l1<s.heap.objs.size:=by obtain⟨_,e,_⟩:=Y;exact f e
 have M:l2<s.heap.objs.size:=by obtain⟨_,e,_⟩:=Z;exact f e
 refine callType_codes (Q₁:=λa7 H=>a7=.ref s.heap.objs.size/\H={s with heap:=s.heap.push {cls:=.type "list",data:=.seq #[]} }) F.called_list (F.typeCall_list_1 _) F.entry_list_init
  (code_list_new _ ⟨rfl,rfl⟩) λa7 H a8=>?_
 obtain⟨rfl,rfl⟩:=a8
 have hS:(s.heap.push {cls:=.type "list",data:=.seq #[]}).get? s.heap.objs.size=some {cls:=.type "list",data:=.seq #[]}:=Z4 _ rfl;refine⟨⟨_,hS,rfl⟩,F.args_list_init_2 _ _,?_⟩
 show wpAny _ A.in1.in1 (do let f <-Builtin.List.listItems (.ref s.heap.objs.size);Builtin.List.listUpdate (.ref s.heap.objs.size) (λ_=>#[]);letGo f.toList.reverse;Builtin.List.listExtendWith (.ref s.heap.objs.size) (.ref z) .none) _ _ _;refine Zd (listItems_at hS rfl ?_);refine Zd (listUpdate_at hS rfl ?_ (Y8 _) (Y8 _));have n:=Wr (Obj.mapSeq (λ_=>(#[]:Array Value))) hS rfl;have a9:((s.heap.push {cls:=.type "list",data:=.seq #[]}).update s.heap.objs.size (Obj.mapSeq (λ_=>(#[]:Array Value)))).objs.size=s.heap.objs.size+1:=by rw[Ks,Ql]
 have N:∀b o,b<s.heap.objs.size->s.heap.get? b=some o->((s.heap.push {cls:=.type "list",data:=.seq #[]}).update s.heap.objs.size (Obj.mapSeq (λ_=>(#[]:Array Value)))).get? b=some o:=
  λb o u e=>(Yu _ _ (Yd u)).trans (Ze _ e)
 refine Zd (Je ?_);generalize aj:(s.heap.push {cls:=.type "list",data:=.seq #[]}).update s.heap.objs.size (Obj.mapSeq (λ_=>(#[]:Array Value)))=H1 at *;unfold Builtin.List.listExtendWith;have O:Shared.TypeIs {s with heap:=H1} (.ref z) "zip" := ⟨_,N z _ v hZ,rfl⟩;refine Zd (wpAny_typeOf O ?_);have n1:Builtin.List.listSameRef (.ref s.heap.objs.size) (.ref z)=false:=by simp[Builtin.List.listSameRef,Yd v]
 rw[if_neg (by rw[n1];decide)];refine Zd (Vm (N z _ v hZ) ?_);refine Zd (Qn ?_);unfold Builtin.List.listLengthHint;refine Zd (wpAny_specialOf O sV ?_);show wpAny _ _ (specialOf (Value.ref z) (Str.ofString "__length_hint__") >>= _) _ _ _;refine Zd (wpAny_specialOf O sW ?_);refine Zu ?_;show wpAny _ _ (rule "list.extend.makes-room" >>= λ_=>Builtin.List.listTouch (.ref s.heap.objs.size) >>= λ_=>again (.builtin "list.extend.loop" ⟨[.ref s.heap.objs.size,.ref z,.none],[]⟩)) _ _ _;refine Zd (Jo ?_);refine Zd ?_;show wpAny _ _ (updateSeq s.heap.objs.size (·.push .none) >>= λ_=>updateSeq s.heap.objs.size (·.pop)) _ _ _;refine Zd (Qz n rfl ?_);have p:=Wr (Obj.mapSeq (·.push Value.none)) n rfl;refine Qz (hz:=by seq_fits) p rfl ?_;have P:=Wr (Obj.mapSeq (·.pop)) p rfl;have d:∀b o,b<s.heap.objs.size->s.heap.get? b=some o->((H1.update s.heap.objs.size (Obj.mapSeq (·.push Value.none))).update s.heap.objs.size (Obj.mapSeq (·.pop))).get? b=some o:=
  λb o u e=>(Yu _ _ (Yd u)).trans ((Yu _ _ (Yd u)).trans (N b o u e))
 have aa:((H1.update s.heap.objs.size (Obj.mapSeq (·.push Value.none))).update s.heap.objs.size (Obj.mapSeq (·.pop))).objs.size=s.heap.objs.size+1:=by rw[Ks,Ks];exact a9
 generalize ak:(H1.update s.heap.objs.size (Obj.mapSeq (·.push Value.none))).update s.heap.objs.size (Obj.mapSeq (·.pop))=H2 at *;have S0:∃c0,H2.get? s.heap.objs.size=some {cls:=.type "list",dict:=none,data:=.seq #[] c0,slots:=#[]}:=⟨_,P⟩;obtain⟨c0,S0⟩:=S0
 have z2:=d z _ v hZ;have R:=d TI _ K W;have ab:=d TO _ B X;have g1:=h1.at λo e=>d C o l e
 have g2:=h2.at λo e=>d G o m e
 have S:=Y.at λo e=>d l1 o L e
 have T:=Z.at λo e=>d l2 o M e
 refine Zu ⟨Kg Qm _,Kh Up ?_⟩;rw[Qc Qm _];show wpAny _ _ (pyNext (.ref z) >>= _) _ _ _;rcases Ul r.size with U|U
 ·refine Zd (wpAny_pyNext_zip_end (by simp[hh]) g z2 R ab g1 g2 S T (.inl (by simp[U])) λi I=>?_);exact Zu ⟨rfl,hQ i s.toks #[] c0 [] (λb o b1 b2 b3 b4 e=>I b o b1 b2 b3 b4 (d b o (f e) e)) (I _ _ (Yd v) (Yd B) (Yd l) (Yd m) S0) rfl (by rw[U];rfl) (λj t e=>by simp at e) (λt ht=>by cases ht) Vi⟩
 ·have hx:r[0]? = some (r[0]'U):=Q2 U;have hy:V[0]? = some (V[0]'vB):=Q2 vB;refine Zd (wpAny_pyNext_zip_item g z2 R ab g1 g2 S T hx hy λi a1 a2 a3 a4 a5 a6 I=>?_);replace a1:DB i z TI TO H2.objs.size false:=a1
  replace a5:IsPair i H2.objs.size (r[0]'U) (V[0]'vB):=a5
  replace a6:i.objs.size=H2.objs.size+1:=a6
  show wpAny _ _ (updateSeq s.heap.objs.size (·.push (.ref H2.objs.size)) >>= _) _ _ _;rw[aa] at a1 a5 a6 |-;have S1:=I _ _ (Yd v) (Yd B) (Yd l) (Yd m) S0;refine Zd ?_;have up:∀b o,b≠s.heap.objs.size->i.get? b=some o->(i.update s.heap.objs.size (Obj.mapSeq (·.push (.ref (s.heap.objs.size+1))))).get? b=some o:=λb o u e=>(Yu _ _ (Wz u)).trans e
  have J:∀{b:Addr},b<s.heap.objs.size->b≠s.heap.objs.size:=λh=>Yj h
  refine Qz S1 rfl (Zu ⟨Kg Qm _,sU .none (by simp[hh]) D af hz (λb u=>?_) (r.size-1) 1 _ _ _ [s.heap.objs.size+1] (s.heap.objs.size+1) false rfl U (up z _ (J v) a1) (.head _) (up TI _ (J K) (I TI _ g.TIz g.TITO g.TIi1 g.TIi2 R)) (a3.at λo e=>up C o (J l) e) (a4.at λo e=>up G o (J m) e)
   (S.at λo e=>up l1 o (J L) (I l1 o g.l1z g.l1TO g.l1i1 g.l1i2 e)) (T.at λo e=>up l2 o (J M) (I l2 o g.l2z g.l2TO g.l2i1 g.l2i2 e)) (Wr _ S1 rfl) rfl rfl (λj t e=>?_) (λt ht=>?_) (Wx _ _) λag tk ae c' ah ai e1 e2 e3 e4 e5 e6=>?_⟩)
  ·simp only[Zf,Zk,or_false] at u;rcases u with e|e|e|e|e|e|e<;>rw[e]
   ·exact Yd v
   ·exact Yd K
   ·exact Yd B
   ·exact Yd l
   ·exact Yd m
   ·exact Yd L
   ·exact Yd M
  ·cases j with
   |zero=>
    simp at e
    subst e;exact⟨_,_,hx,hy,up _ _ (U1 _) a5⟩
   |succ j=>simp at e
  ·rw[Zx.mp ht];exact⟨Yd (Kk v),Yd (Kk l),Yd (Kk m),U1 _⟩
  ·refine⟨rfl,hQ ag tk ae c' ah (λb o b1 b2 b3 b4 e=>ai b o (J (f e)) b1 b3 b4 (up b o (J (f e)) (I b o b1 b2 b3 b4 (d b o (f e) e)))) e1 e2 e3 e4 (λt ht=>?_) e6⟩
   rcases e5 t ht with q|q
   ·rw[Zx.mp q];exact Ww _
   ·have q':(i.update s.heap.objs.size (Obj.mapSeq (·.push (.ref (s.heap.objs.size+1))))).objs.size<=t:=q;rw[Ks,a6] at q';exact Zg (Kk (Ww _)) q'
end
open PySem L2 PyProof.Rows
def updL(H:Hp):List (Addr×HO)->Hp
 |[]=>H
 |(a,o)::L=>upd (updL H L) a o
theorem nK{H:Hp}:∀{L:List (Addr×HO)}{a:Addr}{o:HO},updL H L a=some o->(a,o)∈L\/(H a=some o/\a∉L.map (·.1))
 |[],a,o,h=>.inr ⟨h,by simp⟩
 |(b,u)::L,a,o,h=>by
  unfold updL at h;by_cases e:a=b
  ·subst e;rw[Bh] at h;cases h;exact .inl (.head _)
  ·rw[Bg e] at h;rcases nK h with q|q
   ·exact .inl (.tail _ q)
   ·exact .inr ⟨q.1,by simp only[Zy,Zf,not_or];exact⟨e,q.2⟩⟩
theorem fX{H:Hp}:∀{L:List (Addr×HO)}{a:Addr},a∉L.map (·.1)->updL H L a=H a
 |[],_,_=>rfl
 |(b,u)::L,a,h=>by
  simp only[Zy,Zf,not_or] at h;unfold updL;rw[Bg h.1];exact fX h.2
theorem nL{H:Hp}:∀{L:List (Addr×HO)}{a:Addr}{o:HO},(L.map (·.1)).Nodup->(a,o)∈L->updL H L a=some o
 |(b,u)::L,a,o,d,h=>by
  rw[Zy,Wo] at d;unfold updL;rcases Zf.mp h with e|h
  ·cases e;rw[Bh]
  ·have g:a≠b:=λe=>d.1 (e ▸ Wl (f:=(·.1)) h)
   rw[Bg g];exact nL d.2 h
section
variable{X:Cx}{pins:List (Addr×Obj)}{σ:L2.St}{H:Hp}{s:Shared}{h':Heap}
def Inv.laidL{t':Nat}{L:List (Addr×HO)}(I:L2.Inv X pins σ H s)(k:∀b u,s.heap.get? b=some u->h'.get? b=some u)(j:∀p∈L,s.heap.objs.size<=p.1)(h:∀p∈L,ObjOk X.prog X.w (updL H L) h' p.1 p.2):
  L2.Inv X pins σ (updL H L) {s with heap:=h',toks:=t'}:=by
 have g:∀b,(∃u,s.heap.get? b=some u)->b∉L.map (·.1):=λb ⟨u,e⟩ i=>by
  obtain⟨p,f,rfl⟩:=Zt.mp i
  exact Wm _ (Zg (Zo e) (j p f))
 have m:∀p∈L,H p.1=none:=λp f=>I.hok.fresh (j p f)
 have d:∀b u,H b=some u->updL H L b=some u:=λb u e=>by
  rw[fX λi=>by
   obtain⟨p,f,rfl⟩:=Zt.mp i
   rw[m p f] at e;cases e]
  exact e
 refine I.un (t':=t') ⟨λb u q _ _ _=>k b u q,λb u q _ _ _=>⟨u.slots,k b u q⟩,λb u q n _=>by rw[fX (g b ⟨u,q⟩)];exact n,λb u q _=>⟨u,k b u q⟩,λb l q=>d b _ q,λb u l q=>d b _ q,λb r q=>⟨#[],by rw[d b _ q];simp⟩⟩ λa o e=>?_;rcases nK e with q|⟨q,_⟩
 ·exact h _ q
 ·exact(I.hok a o q).stay (λc v _ z=>k c v z) (λc z=>d c _ z) λc l z=>d c _ z
end
section
variable{K:vE}{H0 Fc F H:Hp}{σ:L2.St}{ρ:CF}
theorem ER.layL:∀(L:List (Addr×HO)),ER K H0 Fc F H σ ρ->(L.map (·.1)).Nodup->(∀p∈L,H p.1=none)->ER K H0 Fc (updL F L) (updL H L) σ ρ/\Same F (updL F L)
 |[],R,_,_=>⟨R,Same.refl _⟩
 |(a,o)::L,R,d,e=>by
  rw[Zy,Wo] at d;obtain⟨f,g⟩:=ER.layL L R d.2 λp h=>e p (.tail _ h)
  obtain⟨R2,i⟩:=f.lay (a:=a) o (by rw[fX d.1];exact e (a,o) (.head _))
  exact⟨R2,g.trans i⟩
end
def CN(a b:List D):List D:=(a.zip b).map λp=>D.tup [p.1,p.2]
def C7(d:List Addr)(e:List (V×V)):List (Addr×HO):=(d.zip e).map λz=>(z.1,HO.tup [z.2.1,z.2.2])
def nM{d:List Addr}{e:List (V×V)}(h:d.length=e.length):(C7 d e).map (·.1)=d:=by
 unfold C7;rw[Yg];show(d.zip e).map (λz=>z.1)=d;exact List.map_fst_zip vB
theorem nN{K:vE}{F:Hp}:∀{a b:List D}{f g:List V}{e:List Addr}{G:Hp},DenL K F a f->DenL K F b g->f.length=g.length->e.length=f.length->Same F G->(∀p∈C7 e (f.zip g),G p.1=some p.2)->DenL K G (CN a b) (e.map V.ref)
 |[],b,f,g,e,G,j,l,h,i,s,m=>by
  have z:=j.inv_nil;subst z;have:e=[]:=Jj.mp (by simpa using i)
  subst this;exact DenL.nil
 |d::a,b,f,g,e,G,j,l,h,i,s,m=>by
  obtain⟨v,E,z,q,r⟩:=j.inv_cons
  subst z;cases b with
  |nil=>rw[l.inv_nil] at h;cases h
  |cons H b=>
   obtain⟨n,o,u,w,A⟩:=l.inv_cons
   subst u;cases e with
   |nil=>cases i
   |cons t e=>
    have B:=m (t,HO.tup [v,n]) (.head _);refine DenL.cons (Den.tup_mk (SqT.of B) (DenL.cons (q.mono s) (DenL.cons (w.mono s) DenL.nil))) ?_;exact nN r A (by simpa using h) (by simpa using i) s λp C=>m p (.tail _ C)
theorem kv:∀{d:List V}{us:List Value},Vals d us->∀(j:Nat) (u:Value),us[j]? = some u->∃x,d[j]? = some x/\RelV x u
 |[],_,h,j,u,e=>by cases h;simp at e
 |x::d,_,h,0,u,e=>by
  cases h with
  |cons f g=>simp at e;subst e;exact⟨x,rfl,f⟩
 |x::d,_,h,j+1,u,e=>by
  cases h with
  |cons f g=>
   obtain⟨y,i,l⟩:=kv g j u (by simpa using e)
   exact⟨y,by simpa using i,l⟩
theorem nO:∀d:List Addr,Vals (d.map V.ref) (d.map Value.ref)
 |[]=>.nil
 |t::d=>.cons rfl (nO d)
section
variable{X:Cx}
def sZ{a b:List D}(hX:X.calm=true)(a8:a.length=b.length):nH X (.type "list") (.type "zip") [.lst a,.lst b] (.new (CN a b)):=by
 refine⟨λU H Q=>∃p q f g,U=[.ref p,.ref q]/\SqL X.K H p f/\SqL X.K H q g/\f.length=g.length/\∀(l:Addr) (d:List Addr),d.length=f.length->(l::d).Nodup->(∀t∈l::d,H t=none)->Q (.ref l) (upd (updL H (C7 d (f.zip g))) l (.lst (d.map V.ref))),λM s σ H U us Q I r h=>?_,λH0 Fc H F σ ρ U Q R q k=>?_⟩
 ·obtain⟨p,q,f,g,rfl,W,Y,a9,hq⟩:=h
  cases r with
  |cons r1 r=>
   cases r with
   |cons r2 r=>
    cases r;cases r1;cases r2;obtain⟨a6,v1,A,z1⟩:=I.list W
    obtain⟨a7,v2,B,z2⟩:=I.list Y
    have n1:=v1.length;have n2:=v2.length;have lp:p<s.heap.objs.size:=by obtain⟨o,Z,_⟩:=A.isList;exact Zo Z
    have lq:q<s.heap.objs.size:=by obtain⟨o,Z,_⟩:=B.isList;exact Zo Z
    refine call_zip_2 A.isList B.isList λC g1 g2 g3 g4 g5 g6 E=>?_;refine sY (s:={s with heap:=C}) (I.ok.hd hX) (Ih lp lq) (nJ lp lq) (by simp only[Zr];omega) (by simp only[Zr];omega) g1 g2 g3 g4 g5 (A.isList.at λo e=>E _ o e) (B.isList.at λo e=>E _ o e) λP tk a0 c d a1 e1 e2 e3 e4 e5 e6=>?_;have aa:∀n:Nat,(s.heap.objs.size+n:Addr)≠s.heap.objs.size\/n=0:=λn=>by
     rcases Ul n with z|z
     ·exact .inr z
     ·exact .inl (Md vB)
    have le:s.heap.objs.size<=C.objs.size:=by rw[g6];exact Wc _ _
    have J:d.length=f.length:=by rw[e3,Zr,<-n1]
    have kp:∀b u,s.heap.get? b=some u->P.get? b=some u:=λb u e=>by
     have S:=Zo e;exact a1 b u (Yj (Zg S (Wc _ 4))) (Yj (Zg S (Wc _ 3))) (Yj S) (Yj (Kk S)) (E b u e)
    have N:∀t∈C.objs.size::d,s.heap.objs.size<=t:=λt G=>by
     rcases Zf.mp G with e|G
     ·rw[e];exact le
     ·exact Y9 le (Ut (e5 t G))
    have L:(C.objs.size::d).Nodup:=Wo.mpr ⟨λhm=>Wm _ (e5 _ hm),e6⟩;have zl:(f.zip g).length=f.length:=by rw[Jr];omega
    have i:(C7 d (f.zip g)).map (·.1)=d:=nM (by rw[zl];exact J);have a2:∀t∈d,t∈(C7 d (f.zip g)).map (·.1):=λt G=>by rw[i];exact G
    show EP X M σ Q (.ref C.objs.size) {s with heap:=P,toks:=tk};refine⟨.ref C.objs.size,updL H ((C.objs.size,HO.lst (d.map V.ref))::C7 d (f.zip g)),Inv.laidL (t':=tk) I kp (λO m=>?_) (λO m=>?_),rfl,hq _ d J L λt G=>I.hok.fresh (N t G)⟩
    ·refine N _ ?_;rcases Zf.mp m with e|hm
     ·rw[e];exact .head _
     ·exact .tail _ (by rw[<-i];exact Wl hm)
    ·rcases Zf.mp m with e|hm
     ·rw[e];show ObjOk X.prog X.w _ P _ (.lst (d.map V.ref));refine⟨by rw[Zc,J];exact z1,d.map Value.ref,c,nO d,?_⟩
      have:a0=(d.map Value.ref).toArray:=by apply Gu.mp;rw[e2]
      rw[<-this];exact e1
     ·unfold C7 at hm;obtain⟨T,hz,e⟩:=Zt.mp hm
      obtain⟨j,hj⟩:=Qx hz
      rw[Q3] at hj;obtain⟨j1,j2⟩:=hj
      rw[Q3] at j2;obtain⟨x,y,x1,x2,x3⟩:=e4 j T.1 j1
      obtain⟨vx,ex,rx⟩:=kv v1 j x (by simpa using x1)
      obtain⟨vy,ey,ry⟩:=kv v2 j y (by simpa using x2)
      rw[j2.1] at ex;rw[j2.2] at ey;cases ex;cases ey;rw[<-e];show ObjOk X.prog X.w _ P T.1 (.tup [T.2.1,T.2.2]);exact⟨by show 2<=sizeLine;decide,[x,y],.cons rx #v[ry],_,x3,rfl,0,rfl⟩
 ·obtain⟨v,u,e,q1,q2⟩:=q.two
  obtain⟨p,f,e1,a3,d1⟩:=q1.lst
  obtain⟨p2,g,e2,a4,d2⟩:=q2.lst
  rw[e1,e2] at e;have l1:=d1.length;have l2:=d2.length;refine⟨p,p2,f,g,e,R.sub.seq a3,R.sub.seq a4,by omega,λl d J L hn=>?_⟩
  rw[Wo] at L;have zl:(f.zip g).length=f.length:=by rw[Jr];omega
  have i:(C7 d (f.zip g)).map (·.1)=d:=nM (by rw[zl];exact J);have a5:∀O∈C7 d (f.zip g),H O.1=none:=λO m=>hn _ (.tail _ (by rw[<-i];exact Wl m))
  obtain⟨R1,s1⟩:=ER.layL (C7 d (f.zip g)) R (by rw[i];exact L.2) a5
  have hl:updL H (C7 d (f.zip g)) l=none:=by
   rw[fX (by rw[i];exact L.1)];exact hn l (.head _)
  obtain⟨R4,hF,h0⟩:=R1.put (.lst (d.map V.ref)) hl
  refine k _ _ _ s1 R4 (RW.n hF h0 Bh ?_);exact nN d1 d2 vB J s1 λO m=>nL (by rw[i];exact L.2) m
end
open PySem L2 PyProof.Rows
section
variable{prog:Program}{w:World}{A:Around}{E:Value->Shared->Prop}{s:Shared}
end
section
variable{X:Cx}{pos:Pos}
end
open PySem L2 PyProof.Rows
open PySem.SeqAt (EqAt)
def Dl(A:Around)(s:Shared)(y x:Value)(b:Bool):Prop:=
 ∀(d:Program) (w:World) (E:Value->Shared->Prop) (Q:Value->Shared->Prop),Q (.bool b) s->wpAny (model d w) A (richCompare .Lt y x) Q E s
def D7(d e f g:Bool):Bool:=if d=true then(if f=true then false else g) else e
def FC{l b:Addr}{q m r o:Value}{n n2:Nat}{dd dd2:Option Addr}{sl sl2:Array (Option Value)}(i z p B:Bool):
  Meets (Builtin.«tuple.__lt__» ⟨[.ref l,.ref b],[]⟩)
   (λA R s=>s.heap.get? l=some {cls:=.type "tuple",dict:=dd,data:=.seq #[q,m] n,slots:=sl}/\s.heap.get? b=some {cls:=.type "tuple",dict:=dd2,data:=.seq #[r,o] n2,slots:=sl2} /\
    EqAt A.in1 s q r i/\(i=false->Dl A.in1 s q r z)/\(i=true->EqAt A.in1 s m o p/\(p=false->Dl A.in1 s m o B)) /\
    R (.ok (.ret (.bool (D7 i z p B)))) s):=
 .of_wp λe w A R s h=>by
  obtain⟨C,g,d,D,os⟩:=s;obtain⟨E,F,G,H,t,h⟩:=h
  have K:=AutoSeq1.sub_tuple_tuple;wp_walk using U2 E,U2 F,wpAny_forIn_list _ (λrest b u=>b.1=none/\u=⟨C,g,d,D,os⟩ /\
   ((rest=[(q,r),(m,o)])\/(rest=[(m,o)]/\i=true)\/(rest=[]/\i=true/\p=true))) _
  case turn=>
   rintro⟨y,x⟩ rest b u ⟨j,rfl,f⟩
   rcases f with f|⟨f,v⟩|⟨f,_⟩
   ·cases f;refine Zd (G e w _ _ ?_);cases i with
    |true=>wp_walk;exact⟨rfl,rfl,.inr (.inl ⟨rfl,rfl⟩)⟩
    |false=>
     refine Zd (Jo (Zd (H rfl e w _ _ ?_)));wp_walk
     exact⟨_,rfl,h⟩
   ·cases f;subst v;obtain⟨t,I⟩:=t rfl
    refine Zd (t e w _ _ ?_);cases p with
    |true=>wp_walk;exact⟨rfl,rfl,.inr (.inr ⟨rfl,rfl,rfl⟩)⟩
    |false=>
     refine Zd (Jo (Zd (I rfl e w _ _ ?_)));wp_walk
     exact⟨_,rfl,h⟩
   ·cases f
  case fin=>
   rintro⟨L,M⟩ u ⟨j,rfl,f⟩
   simp only at j
   subst j;rcases f with f|⟨f,_⟩|⟨_,v,J⟩
   ·cases f
   ·cases f
   ·subst v;subst J;wp_walk
    exact⟨_,rfl,h⟩
  case h=>exact⟨rfl,rfl,.inl rfl⟩
def Reads.tup2{h:Heap}{v:Value}{x y:PyData}{g:List Addr}(r:Reads h v (.tuple [x,y]) g):∃l o u w n i j,v=.ref l/\h.get? l=some o/\o.cls=.type "tuple" /\ o.data=.seq #[u,w] n/\Reads h u x i/\Reads h w y j:=by
 cases r with
 |tuple m p q f=>
  rename_i a o s n;generalize e:s.toList=A at f;cases f with
  |cons t d=>
   cases d with
   |cons d z=>
    cases z;skip
    refine⟨a,o,_,_,n,_,_,rfl,m,p,?_,t,d⟩
    rw[q];congr 1
    exact Gu.mp (by rw[e])
section
variable{A:Around}{s:Shared}
def td{i j:Int}{t u:Tok}:Dl A s (.int i t) (.int j u) (decide (i<j)):=λd w E Q h=>(PyProof.Rows.lt_int h:wpAny (model d w) A (compareOp .Lt (.int i t) (.int j u)) Q E s)
def GU{v u:Value}{q r t z:PyData}{d e:List Addr}{f g i j:Bool}(P:Reads s.heap v (.tuple [q,r]) d)(R:Reads s.heap u (.tuple [t,z]) e)(S:A.units<cLine)
 (B:∀v u d e,Reads s.heap v q d->Reads s.heap u t e->EqAt A.in1 s v u f/\Dl A.in1 s v u g)(C:∀v u d e,Reads s.heap v r d->Reads s.heap u z e->EqAt A.in1 s v u i/\Dl A.in1 s v u j):Dl A s v u (D7 f g i j):=by
 intro D w E Q h;obtain⟨l,⟨T,U,data,V⟩,X,Y,n,_,_,rfl,G,H,I,J,K⟩:=Reads.tup2 P
 obtain⟨b,⟨L,p,data2,sl2⟩,Z,q1,W,_,_,rfl,M,m,o,N,O⟩:=Reads.tup2 R
 simp only at H I m o
 subst H I m o;exact richCompare_meets_room (op:=.Lt) ⟨_,G,rfl⟩ ⟨_,M,rfl⟩ F.slot_tuple_lt F.entry_tuple_lt (F.args_tuple_lt_2 _ _) (FC (dd:=U) (dd2:=p) (sl:=V) (sl2:=sl2) (n:=n) (n2:=W) f g i j)
  ⟨G,M,(B _ _ _ _ J N).1,λ_=>(B _ _ _ _ J N).2,λ_=>⟨(C _ _ _ _ K O).1,λ_=>(C _ _ _ _ K O).2⟩,show Value.bool (D7 f g i j)≠Value.notImplemented/\Q (.bool (D7 f g i j)) s from⟨(λx=>nomatch x),h⟩⟩ S
def JN(a c b d:Int):Bool:=D7 (a == b) (decide (a<b)) (c == d) (decide (c<d))
abbrev LY(a c:Int):PyData:=.tuple [.int a,.int c]
def GV{v u:Value}{a c b d:Int}{e f:List Addr}(i:Reads s.heap v (LY a c) e)(j:Reads s.heap u (LY b d) f)(l:A.units<cLine):Dl A s v u (JN a c b d):=by
 refine GU i j l (λv u e f g h=>?_) λv u e f g h=>?_
 all_goals
  cases g;cases h
  exact⟨SeqAt.EqAt.int_int _ _ _ _,td⟩
end
def Iq:D->Option (List D)
 |.tup l=>some l
 |_=>none
def Hj:D->Option Int
 |.int i=>some i
 |_=>none
def Ip:List D->Option (D×D)
 |[a,b]=>some (a,b)
 |_=>none
def prI(d:D):Option (Int×Int):=(Iq d).bind λl=>(Ip l).bind λp=>(Hj p.1).bind λa=>(Hj p.2).map λc=>(a,c)
def FE{d:D}{l:List D}(h:Iq d=some l):d=.tup l:=by cases d<;>first|(cases h;rfl)|(cases h;done)
def nP{d:D}{i:Int}(h:Hj d=some i):d=.int i:=by cases d<;>first|(cases h;rfl)|(cases h;done)
def FD{l:List D}{p:D×D}(h:Ip l=some p):l=[p.1,p.2]:=by
 cases l with
 |nil=>cases h
 |cons a l=>
  cases l with
  |nil=>cases h
  |cons b l=>
   cases l with
   |nil=>cases h;rfl
   |cons _ _=>cases h
def IX{d:D}{x:Int×Int}(h:prI d=some x):d=.tup [.int x.1,.int x.2]:=by
 obtain⟨l,e,h⟩:=Za.mp h
 obtain⟨p,f,h⟩:=Za.mp h
 obtain⟨a,g,h⟩:=Za.mp h
 obtain⟨c,i,h⟩:=Zb.mp h
 rw[FE e,FD f,nP g,nP i,<-h]
def Ew(d:D):Option (Int×Int):=prI d
def ltN(x y:D):Bool:=match Ew x,Ew y with
 |some p,some q=>JN p.1 p.2 q.1 q.2
 |_,_=>false
def ky{x:D}{p:Int×Int}(h:Ew x=some p):toP x=LY p.1 p.2/\dOk 49 x=true:=by
 rw[IX h];exact⟨by simp[toP,toPs],by simp[dOk,dOkL]⟩
def GW{A:Around}{s:Shared}{v u:Value}{x y:D}{p q:Int×Int}{i j:List Addr}(d:Ew x=some p)(f:Ew y=some q)(g:Reads s.heap v (toP x) i)(h:Reads s.heap u (toP y) j)(l:A.units+8<cLine):Dl A s v u (ltN x y):=by
 have e:ltN x y=JN p.1 p.2 q.1 q.2:=by unfold ltN;rw[d,f]
 rw[e];rw[(ky d).1] at g;rw[(ky f).1] at h;exact GV g h vB
open PySem L2 PyProof.Rows
open PySem.SeqAt (EqAt)
def Ext(h d:Heap):Prop:=∀b o,h.get? b=some o->d.get? b=some o
section
variable{prog:Program}{w:World}{A:Around}{E:Value->Shared->Prop}{R:Result->Shared->Prop}{h₀:Heap}{I S l:Addr}{vs:List Value}
def kz{h h':Heap}{f:Obj->Obj}(k:Ext h₀ h)(hS:h₀.get? S=none):Ext h₀ (h.update S f):=λb o e=>
 (Yu _ _ (λz:S=b=>by rw[z,e] at hS;cases hS)).trans (k b o e)
def kA{h d:Heap}(k:Ext h₀ h)(f:h₀.get? I=none)(g:∀b o,b∉[I]->h.get? b=some o->d.get? b=some o):Ext h₀ d:=λb o e=>
 g b o (λz=>by rw[Zx.mp z,f] at e;cases e) (k b o e)
def tf(Y:A.handled=none)(t:Nat->Nat->Bool)(H:h₀.IsList l vs.toArray)(J:h₀.get? I=none)(hS:h₀.get? S=none)(u:S≠I)
 (B:∀i j M N (s:Shared),Ext h₀ s.heap->vs[i]? = some M->vs[j]? = some N->Dl A.in1 s M N (t i j)):
  ∀(k j:Nat) (s:Shared) (g:Value) (c:Nat),vs.length-(j+1)=k->j+1<=vs.length->s.heap.IsListIter I l (j+1)->Ext h₀ s.heap->vs[argBest t j]? = some g ->
   s.heap.get? S=some (seqObj "list" #[g,g] c) ->
   (∀v h C,vs[argBest t (vs.length-1)]? = some v->Ext h₀ h->R (.ok (.ret v)) {s with heap:=h,toks:=C}) ->
   codeAny (model prog w) A (.builtin "min.loop" ⟨[.ref I,.none,.ref S],[]⟩) R s:=by
 have O:(toString "min" ++ toString ".loop" : String) = "min.loop" := by decide
 have Z:l≠I:=λz=>by
  obtain⟨o,q,_⟩:=H
  rw[z,J] at q;cases q
 have W:=Walks.list (prog:=prog) (w:=w) (A:=A.in1) Y I l Z vs.toArray;have P:vs.toArray.size=vs.length:=Zr ..;have Q:S∉[I]:=by simpa using u
 intro k;induction k with
 |zero=>
  intro j s g c hk hj K D F E G;have T:j+1=vs.length:=by omega
  refine Kh Vf ?_;rw[Qc Qo _];show wpAny _ A.in1 (seqItems? (.ref S) >>= _) _ _ s;refine Zd (Wj E rfl ?_);show wpAny _ A.in1 (tryCatch (pyNext (.ref I)) _ >>= _) _ _ s;refine Zd (Uq (W.done s _ _ ⟨by rw[P,<-T];exact K,H.at λo q=>D _ _ q⟩ λh C d=>?_));show wpAny _ A.in1 (updateSeq S (λ_=>#[]) >>= _) _ _ _;refine Zd (Qz (d S _ Q E) rfl (Zd (Je (Zu ?_))));exact G g _ C (by rw[<-T];exact F) (kz (h':=h) (kA D J d) hS)
 |succ k U=>
  intro j s g c hk hj K D F E G;have m:j+1<vs.length:=by omega
  refine Kh Vf ?_;rw[Qc Qo _];show wpAny _ A.in1 (seqItems? (.ref S) >>= _) _ _ s;refine Zd (Wj E rfl ?_);show wpAny _ A.in1 (tryCatch (pyNext (.ref I)) _ >>= _) _ _ s;refine Zd (Uq (W.item (j+1) s _ _ (by rw[P];exact m) ⟨K,H.at λo q=>D _ _ q⟩ λv h C hP V d=>?_));have X:vs[j+1]? = some v:=by simpa using hP
  have n:=kA D J d;have p:=d S _ Q E;show wpAny _ A.in1 (tryCatch (holding [v,v] (richCompare .Lt v g >>= _)) _ >>= _) _ _ _;refine Zd (Uq (Qn (Zd (B (j+1) (argBest t j) v g {s with heap:=h,toks:=C} n X F prog w _ _ ?_))));refine Zd (Qn (Q5 (Zd (Je (Zu ?_)))));cases q:t (j+1) (argBest t j) with
  |true=>
   simp only[if_true];refine Zd (Qz p rfl (Zd (Je ?_)));rw[O];refine Zu ⟨Kg Qo _,U (j+1) _ v _ vB m (V.1.at λo e=>(Yu _ _ u).trans e) (kz (h':=h) n hS) (by simp only[argBest,q,if_true];exact X) (get?_update_seq p λ_=>#[v,v]) λL r f=>G L r f⟩
  |false=>
   simp only[Wv,if_false];refine Zd (Je ?_);rw[O];refine Zu ⟨Kg Qo _,U (j+1) _ g c vB m V.1 n (by simp only[argBest,q,Wv,if_false];exact F) p λL r f=>G L r f⟩
def ti{s:Shared}(B:A.handled=none)(p:Nat->Nat->Bool)(r:h₀.IsList l vs.toArray)(t:h₀.get? I=none)(hS:h₀.get? S=none)(d:S≠I)(C:0<vs.length)
 (f:∀i j D E (s:Shared),Ext h₀ s.heap->vs[i]? = some D->vs[j]? = some E->Dl A.in1 s D E (p i j))(J:s.heap.IsListIter I l 0)(F:Ext h₀ s.heap)(G:s.heap.get? S=some (seqObj "list" #[] 0))
 (K:∀v n H,vs[argBest p (vs.length-1)]? = some v->Ext h₀ n->R (.ok (.ret v)) {s with heap:=n,toks:=H}):codeAny (model prog w) A (.builtin "min.loop" ⟨[.ref I,.none,.ref S],[]⟩) R s:=by
 have L:(toString "min" ++ toString ".loop" : String) = "min.loop" := by decide
 have M:l≠I:=λz=>by
  obtain⟨o,q,_⟩:=r
  rw[z,t] at q;cases q
 have W:=Walks.list (prog:=prog) (w:=w) (A:=A.in1) B I l M vs.toArray;have N:vs.toArray.size=vs.length:=Zr ..;refine Kh Vf ?_;rw[Qc Qo _];show wpAny _ A.in1 (seqItems? (.ref S) >>= _) _ _ s;refine Zd (Wj G rfl ?_);show wpAny _ A.in1 (tryCatch (pyNext (.ref I)) _ >>= _) _ _ s;refine Zd (Uq (W.item 0 s _ _ (by rw[N];exact C) ⟨J,r.at λo q=>F _ _ q⟩ λv n H O P g=>?_));have Q:vs[0]? = some v:=by simpa using O
 have h:=g S _ (by simpa using d) G;show wpAny _ A.in1 (updateSeq S (λ_=>#[v,v]) >>= _) _ _ _;refine Zd (Qz h rfl ?_);rw[L];exact Zu ⟨Kg Qo _,tf B p r t hS d f _ 0 _ v _ rfl C (P.1.at λo e=>(Yu _ _ d).trans e) (kz (h':=n) (kA F t g) hS) Q (get?_update_seq h λ_=>#[v,v]) λT u m=>K T u m⟩
def tj{s:Shared}{Q:Value->Shared->Prop}(u:A.handled=none)(m:Nat->Nat->Bool)(p:s.heap.IsList l vs.toArray)(z:0<vs.length)
 (g:∀i j q r (t:Shared),Ext s.heap t.heap->vs[i]? = some q->vs[j]? = some r->Dl A.in1 t q r (m i j))
 (B:∀v h n,vs[argBest m (vs.length-1)]? = some v->Ext s.heap h->Q v {s with heap:=h,toks:=n}):wpAny (model prog w) A (call (.builtin "min") [.ref l]) Q E s:=by
 have C:(toString "min" ++ toString ".loop" : String) = "min.loop" := by decide
 refine call_function_tree F.kind_min F.plain_min F.entry_min (F.args_min1 _) ?_;show wpAny _ A.in1 (Builtin.Builtins.bindParams "min" ["key","default"] 0 ⟨[],[]⟩ >>= _) _ _ s;refine Zd (wpAny_of_eq (show Builtin.Builtins.bindParams "min" ["key","default"] 0 ⟨[],[]⟩=pure [none,none] from rfl) ?_);refine Zd (Zu ?_);refine Zd (U7 p ?_);refine Zd (wpAny_newList ?_ (Y8 _));rw[C];have up:∀d f,Ext s.heap ((s.heap.push d).push f):=λd f b x e=>Ze _ (Ze _ e)
 have D:s.heap.get? s.heap.objs.size=none:=Jw (Zn _);have G:∀o,s.heap.get? (s.heap.push o).objs.size=none:=λo=>Jw (by rw[size_push'];exact Uc _)
 have H:∀o,(s.heap.push o).objs.size≠s.heap.objs.size:=λo=>by rw[size_push'];exact Yd (Ww _)
 exact Zu ⟨Kg Qo _,ti u m p D (G _) (H _) z g ⟨_,Ze _ (Z4 _ rfl),rfl,rfl⟩ (up _ _) (Z4 _ rfl) λv h n a b=>B v h n a b⟩
end
section
variable{X:Cx}
def eW(l:List D):Nat:=argBest (λi j=>ltN (l.getD i .non) (l.getD j .non)) (l.length-1)
def DD(l:List D):Option D:=if (l.all λd=>(Ew d).isSome)=true then l[eW l]? else none
def tm{l:List D}(h:(l.all λd=>(Ew d).isSome)=true){d:D}(e:d∈l):∃p,Ew d=some p:=Va.mp (Uw.mp h d e)
def tq(W:X.calm=true)(hu:X.A.units+64<cLine):cb X (.builtin "min") (λR H Q=>∃a F t l r,R=[.ref a]/\Same F H/\SqL X.K F a t/\DenL X.K F l t/\DD l=some r/\∀v,Den X.K F r v->Q v H):=by
 intro pins s σ H R us Q I r ⟨a,F,t,l,d,e,S,Y,L,o,q⟩;subst e;obtain⟨u,e,Z⟩:=cI r
 subst e;cases Z;obtain⟨g,M,pl,hz⟩:=I.list (S.seq Y)
 unfold DD at o;split at o
 ·rename_i w;have B:t.length=l.length:=L.length;have C:t.length=g.length:=M.length;have a0:eW l<l.length:=by
   rcases Yk (eW l) l.length with h|h
   ·exact h
   ·rw[Y6 h] at o;cases o
  have T:∀i D,g[i]? = some D->∃m E p,l[i]? = some m/\Ew m=some p/\Reads s.heap D (toP m) E:=λi D G=>by
   have a1:i<g.length:=(Zi.mp G).1;obtain⟨m,n⟩:∃m,l[i]? = some m:=⟨_,Zj vB⟩
   obtain⟨y,N,O⟩:=L.get n
   obtain⟨z,f,P⟩:=M.get N
   rw[G] at f;cases f;obtain⟨p,U⟩:=tm w (Yh n)
   obtain⟨E,ra⟩:=cg I S 49 m (ky U).2 O P
   exact⟨m,E,p,n,U,ra⟩
  refine tj (I.ok.hd W) (λi j=>ltN (l.getD i .non) (l.getD j .non)) pl.isList vB (λi j D vj s' J G hj=>?_) λv h' tk V J=>?_
  ·obtain⟨m,E,p,h1,h2,h3⟩:=T i D G
   obtain⟨dj,bs,q,k1,k2,k3⟩:=T j vj hj
   rw[Yf,Yf,h1,k1];exact GW h2 k2 (Reads.keeps J h3) (Reads.keeps J k3) (by rw[Gk];omega)
  ·rw[<-C,B] at V;obtain⟨y,N,O⟩:=L.get o
   obtain⟨z,f,P⟩:=M.get N
   rw[show g[eW l]? = some v from V] at f;cases f;exact⟨y,H,I.kept J,P,q y O⟩
 ·cases o
def tu{l:List D}{d:D}(f:X.calm=true)(g:X.A.units+64<cLine)(h:DD l=some d):bV X (.builtin "min") [.lst l] (.val d):=⟨_,tq f g,λo s H F t u w Q R q k=>by
 obtain⟨v,e,q⟩:=q.one
 obtain⟨p,i,j,m,r⟩:=q.lst
 rw[j] at e;exact⟨p,F,i,l,d,e,R.sub,m,r,h,λv n=>k v H F (Same.refl _) R (RW.v n)⟩⟩
def DH(l:List D)(y:D):Option Nat:=if (dOkL 49 l && dOk 50 y)=true then l.findIdx? (λd=>eqD d y) else none
def EH:D->D->Option W
 |.lst l,y=>(DH l y).map λ(k:Nat)=>W.val (.int (k:Int))
 |_,_=>none
theorem nQ:∀{l:List D}{n:Nat}{d:D},dOkL n l=true->d∈l->dOk n d=true
 |d::l,n,e,h,f=>by
  simp only[dOkL,Zl] at h;rcases Zf.mp f with z|z
  ·rw[z];exact h.1
  ·exact nQ h.2 z
def tw(hu:X.A.units+64<cLine):MtR X "list.index" (λx Z H Q=>∃a F C l y v k,x=.ref a/\Z=[v]/\Same F H/\SqL X.K F a C/\DenL X.K F l C/\Den X.K F y v/\DH l y=some k/\Q (.int (k:Int)) H):=by
 intro pins s σ H x Z vv us Q I rx r ⟨a,F,C,l,y,v,k,e,e2,R,sq,dn,dy,N,q⟩;subst e;subst e2;obtain⟨u,e,r1⟩:=cI r
 subst e;cases rx;obtain⟨f,rv,pl,hz⟩:=I.list (R.seq sq)
 unfold DH at N;split at N
 ·rename_i p;rw[Zl] at p;obtain⟨⟨a4,dd,data,sl⟩,ho,hc,n,E⟩:=id pl.isList
  simp only at hc E
  subst hc E;have a0:C.length=l.length:=dn.length;have a3:C.length=f.length:=rv.length;obtain⟨bs,ry⟩:=cg I R 50 y p.2 dy r1
  have S:∀i T,f[i]? = some T->∃d G,l[i]? = some d/\dOk 49 d=true/\Reads s.heap T (toP d) G:=λi T hi=>by
   have a5:i<f.length:=(Zi.mp hi).1;obtain⟨d,t⟩:∃d,l[i]? = some d:=⟨_,Zj vB⟩
   obtain⟨y,hy,qy⟩:=dn.get t
   obtain⟨z,J,rz⟩:=rv.get hy
   rw[hi] at J;cases J;have ok:=nQ p.1 (Yh t);obtain⟨G,ra⟩:=cg I R 49 d ok qy rz
   exact⟨d,G,t,ok,ra⟩
  obtain⟨U,O,h3⟩:=Ui.mp N
  classical
  let e:Value->Bool:=λz=>decide (∃(i:Nat) (d:D),f[i]? = some z/\l[i]? = some d/\eqD d y=true)
  have h:∀i z d,f[i]? = some z->l[i]? = some d->e z=eqD d y:=λi z d h1 O=>by
   obtain⟨d1,a6,P,g,w⟩:=S i z h1
   rw[O] at P;cases P;cases q:eqD d y with
   |true=>exact decide_eq_true ⟨i,d,h1,O,q⟩
   |false=>
    refine decide_eq_false λ⟨j,dj,k1,k2,k3⟩=>?_;obtain⟨d2,a7,g2,V,W⟩:=S j z k1
    rw[k2] at g2;cases g2;have:=(reads_det (λb o e _=>e) w W).1
    rw[<-dR 49 50 d y g p.2,<-this,dR 49 50 dj y V p.2,k3] at q;cases q
  have L:k<f.toArray.size:=by simp only[Zr];omega
  have M:∀m (B:m<f.toArray.size) (hl:m<l.length),e f.toArray[m]=eqD l[m] y:=λm B hl=>
   h m _ _ (by simp only[List.getElem_toArray];exact Zj (by simpa using B)) (Zj hl)
  refine call_meets U9 ⟨_,ho,rfl⟩ PySem.F.entry_list_index (PySem.F.args_list_index_2 _ _)
   (SeqAt.list_indexAt a f.toArray n dd sl u e k L ?_ ?_ ?_) ⟨ho,λz hz=>?_,?_⟩
  ·have:sizeLine<2^63-1:=by decide
   omega
  ·rw[M k L U];exact O
  ·intro m B Y;rw[M m B vB];simpa using h3 m Y
  ·obtain⟨m,B,ez⟩:=Qf (Vw.mpr hz)
   have gz:f[m]? = some z:=by rw[<-ez];exact Zj B
   obtain⟨d,G,P,g,w⟩:=S m z gz
   rw[h m z d gz P,<-dR 49 50 d y g p.2];obtain⟨a1,b1⟩:=eU 49 d g
   obtain⟨a2,b2⟩:=eU 50 y p.2
   exact SeqAt.eqAt_reads (toP d) (toP y) X.A.in1 s z u G bs w ry a1 a2 (by rw[Gk];have:=Nat.min_le_left (toP d).depth (toP y).depth;omega)
  ·exact⟨.int (k:Int),H,I.tok _,⟨_,rfl⟩,q⟩
 ·cases N
def DE.idx{d:CF}{x:Str}{p i j:Pos}{e:Expr}{l:List D}{y:D}{k:Nat}(z:X.A.units+64<cLine)(B:DF X (.Name x p) d (.lst l))(C:DF X e d y)(f:Bd e=true)(E:(i.endLine == j.line)=true)(G:DH l y=some k):
  DE X (.Call (.Attribute (.Name x p) "index" i) [e] [] j) d (.val (.int (k:Int))):=λm n=>
 PE.mono (iv (T := "list") Jf U9 PySem.F.type_list_index (tw z) (B m n) (DA.cons C DA.nil f m n) (by rfl) (by rw[Bj f];rfl) E (Bj f) rfl) λW H Q ⟨F,R,q⟩=>
  ⟨F,R,λv Y I J o s=>by
   obtain⟨a,K,L,M,r⟩:=s.lst
   subst L;refine⟨.inl ⟨rfl,K,o.sub.seq M⟩,I,o,λZ N t w R2 O=>?_⟩
   obtain⟨u,P,S⟩:=O.one
   obtain⟨a',g,U,h,V⟩:=(s.mono w).lst
   cases U;exact⟨a,t,g,l,y,u,k,rfl,P,R2.sub,h,V,S,G,q _ N t (J.trans w) R2 RW.int⟩⟩
end
open PySem L2 PyProof.Rows
def cj:List D->Option (List Int)
 |[]=>some []
 |.int i::l=>(cj l).map λd=>i::d
 |_=>none
def sumI:List Int->Int
 |[]=>0
 |i::l=>i+sumI l
theorem nR:∀l:List Int,sumI l=l.sum
 |[]=>rfl
 |i::l=>by rw[sumI,nR l,Y4]
theorem kB{K:vE}{F:Hp}:∀{l:List D}{f:List Int}{g:List V},cj l=some f->DenL K F l g->g=f.map V.int
 |[],_,_,h,q=>by cases h;rw[q.inv_nil];rfl
 |d::l,f,_,h,q=>by
  obtain⟨v,n,e,i,j⟩:=q.inv_cons
  subst e;cases d<;>first|(cases h;done)|skip
  obtain⟨r,m,e⟩:=Zb.mp h
  subst e;rw[Zy,i.int,kB m j]
theorem kC:∀{f:List Int}{us:List Value},Vals (f.map V.int) us->∃d:List (Int×Tok),us=d.map (λp=>Value.int p.1 p.2)/\d.map (·.1)=f
 |[],_,h=>by cases h;exact⟨[],rfl,rfl⟩
 |i::f,_,h=>by
  cases h with
  |cons g j=>
   obtain⟨t,e⟩:=g
   obtain⟨d,l,m⟩:=kC j
   subst e;subst l;subst m;exact⟨(i,t)::d,rfl,rfl⟩
section
variable{X:Cx}
def nS{d:List (Int×Tok)}:intItems d.toArray=(d.map λp=>Value.int p.1 p.2).toArray:=by
 unfold intItems;simp
def tE:∀(d:List (Int×Tok)),preSum (numAt d.toArray) d.length=(d.map (·.1)).sum:=by
 intro d;have key:∀n,n<=d.length->preSum (numAt d.toArray) n=((d.map (·.1)).take n).sum:=by
  intro n;induction n with
  |zero=>intro _;simp[preSum]
  |succ n e=>
   intro f;rw[preSum,e vB,Jz,List.sum_append];have:(d.map (·.1))[n]? = some (numAt d.toArray n):=by
    have h:n<d.length:=by omega
    simp[numAt,h]
   rw[this];simp
 rw[key _ (Zn _),Ke vC]
def tF(g:X.calm=true):cb X (.builtin "sum") (λf H Q=>∃a d,f=[.ref a]/\SqL X.K H a (d.map V.int)/\Q (.int (sumI d)) H):=by
 intro pins s v H f w Q I r ⟨a,d,e,h,q⟩;subst e;obtain⟨u,e,i⟩:=cI r
 subst e;cases i;obtain⟨j,l,pl,z⟩:=I.list h
 obtain⟨m,n,o⟩:=kC l
 subst n;have p:s.heap.IsList a (intItems m.toArray):=by rw[nS];exact pl.isList
 refine sum_intListG (I.ok.hd g) p λA B t k=>⟨.int (sumI d),H,I.kept k,⟨t,?_⟩,q⟩
 rw[Zr,tE,o,nR]
def tG{l:List D}{d:List Int}(g:X.calm=true)(h:cj l=some d):bV X (.builtin "sum") [.lst l] (.val (.int (sumI d))):=⟨_,tF g,λj m H F n o s Q R q k=>by
 obtain⟨v,e,q⟩:=q.one
 obtain⟨p,t,i,f,r⟩:=q.lst
 rw[i] at e;rw[kB h r] at f;exact⟨p,d,e,R.sub.seq f,k _ H F (Same.refl _) R RW.int⟩⟩
end
def Inv.turnedN{X:Cx}{pins:List (Addr×Obj)}{σ:L2.St}{H:Hp}{s:Shared}{l:Heap}{t:List Addr}{p:Addr}{o:HO}{E:Nat}(I:Inv X pins σ H s)(i:∀b∈t,CQ X pins H b)
 (k:∀b d,b∉t->s.heap.get? b=some d->l.get? b=some d)(C:s.heap.objs.size<=p)(A:ObjOk X.prog X.w (upd H p o) l p o):Inv X pins σ (upd H p o) {s with heap:=l,toks:=E}:=by
 have B:∀{b:Addr}{d:Obj},s.heap.get? b=some d->b≠p:=λh z=>by
  have:=Zo h
  subst z;exact absurd (Zg this C) (Wm _)
 have e:∀{b:Addr}{u:HO},H b=some u->b≠p:=λh z=>by
  subst z;rw[I.hok.fresh C] at h;cases h
 refine I.step (g':=s.gens) (d':=s.drawn) (ch:=t) (λb f=>⟨(i b f).2.2.2.1,(i b f).2.1,(i b f).2.2.2.2.1,(i b f).2.2.2.2.2⟩) (λb d _ _ g q _=>k b d g q) (λb d _ _ g q _=>⟨d.slots,k b d g q⟩)
  (λb d g q n=>by rw[Bg (B q)];exact n) (λb d g q=>⟨d,k b d g q⟩) (λb D q=>by rw[Bg (e q)];exact q) (λb d D q=>by rw[Bg (e q)];exact q)
  (λb J q=>⟨#[],by rw[Bg (e q),q];simp⟩) (λm j=>?_) (λb u q=>?_) I.bare
 ·obtain⟨d,F,G,q,r⟩:=j
  exact⟨d,F,G,k _ d (λf=>(i _ f).2.1 rfl) q,r⟩
 ·by_cases f:b=p
  ·subst f;rw[Bh] at q;cases q;exact A
  ·rw[Bg f] at q;refine(I.hok b u q).stay (λc v g z=>k c v (λj=>?_) z) (λc z=>by rw[Bg (e z)];exact z) λc D z=>by rw[Bg (e z)];exact z
   rcases g with z|z
   ·subst z;rw[(i _ j).1] at q;cases q
   ·rw[(i _ j).1] at z;cases z
def Inv.turnedF{X:Cx}{pins:List (Addr×Obj)}{σ:L2.St}{H:Hp}{s:Shared}{j:Heap}{i:List Addr}{t':Nat}(I:Inv X pins σ H s)(d:∀b∈i,CQ X pins H b)(k:∀b l,b∉i->s.heap.get? b=some l->j.get? b=some l):Inv X pins σ H {s with heap:=j,toks:=t'}:=by
 refine I.step (g':=s.gens) (d':=s.drawn) (ch:=i) (λb g=>⟨(d b g).2.2.2.1,(d b g).2.1,(d b g).2.2.2.2.1,(d b g).2.2.2.2.2⟩) (λb o _ _ f e _=>k b o f e) (λb o _ _ f e _=>⟨o.slots,k b o f e⟩) (λ_ _ _ _ n=>n)
  (λb o f e=>⟨o,k b o f e⟩) (λ_ _ e=>e) (λ_ _ _ e=>e) (λb A e=>⟨#[],by rw[e];simp⟩) (λm h=>?_) (λb u e=>?_) I.bare
 ·obtain⟨o,p,t,w,r⟩:=h
  exact⟨o,p,t,k _ o (λg=>(d _ g).2.1 rfl) w,r⟩
 ·refine(I.hok b u e).stay (λc v f q=>k c v (λh=>?_) q) (λ_ q=>q) λ_ _ q=>q
  rcases f with z|z
  ·subst z;rw[(d _ h).1] at e;cases e
  ·rw[(d _ h).1] at z;cases z
def tH:bootBuiltins "zip" = some (.type "zip"):=by decide +kernel
section
variable{X:Cx}{elts:List Expr}{x1:Nat}{tp:Pos}
end
open PySem L2 PyProof.Rows
def maxI:List Int->Option Int
 |[]=>none
 |[a]=>some a
 |a::l=>(maxI l).map λm=>if m<a then a else m
theorem iH:∀{l:List Int}{m:Int},maxI l=some m->m∈l/\∀a∈l,a<=m
 |[],_,h=>by cases h
 |[a],m,h=>by cases h;exact⟨.head _,λb g=>by rw[Zx.mp g];exact Gi _⟩
 |a::b::l,m,h=>by
  unfold maxI at h;obtain⟨k,i,e⟩:=Zb.mp h
  obtain⟨j,f⟩:=iH i
  by_cases z:k<a
  ·rw[if_pos z] at e;subst e;refine⟨.head _,λc d=>?_⟩
   rcases Zf.mp d with q|q
   ·omega
   ·have:=f c q;omega
  ·rw[if_neg z] at e;subst e;refine⟨.tail _ j,λc d=>?_⟩
   rcases Zf.mp d with q|q
   ·omega
   ·exact f c q
def tI{l:List Int}{m M:Int}(h:maxI l=some m)(d:M∈l)(e:∀a,a∈l->a<=M):M=m:=by
 obtain⟨a,b⟩:=iH h
 have:=b M d
 have:=e m a
 omega
section
variable{X:Cx}
def tJ(C:X.calm=true):cb X (.builtin "max") (λw H Q=>∃a l m,w=[.ref a]/\SqL X.K H a (l.map V.int)/\maxI l=some m/\Q (.int m) H):=by
 intro pins s O H w P Q I r ⟨a,l,m,e,D,z,q⟩;subst e;obtain⟨u,e,E⟩:=cI r
 subst e;cases E;obtain⟨F,G,pl,R⟩:=I.list D
 obtain⟨d,J,g⟩:=kC G
 subst J;have L:s.heap.IsList a (intItems d.toArray):=by rw[nS];exact pl.isList
 have n:0<d.length:=by
  cases d with
  |nil=>subst g;cases z
  |cons x d=>exact K7 _
 refine max_intList (I.ok.hd C) L (by simpa using n) λv S T M k=>?_;obtain⟨t,ev⟩:=intItems_at M
 have A:=argBest_gt (numAt d.toArray) (d.toArray.size-1);subst ev;refine⟨.int m,H,I.kept k,⟨t,?_⟩,q⟩
 congr 1
 have B:argBest (λi j=>decide (numAt d.toArray i > numAt d.toArray j)) (d.toArray.size-1)<d.length:=by
  have:=A.1
  simp only[Zr] at this |-;omega
 have f:∀i (h:i<d.length),numAt d.toArray i=(d[i]).1:=λi h=>by simp[numAt,h]
 subst g;refine tI z ?_ λb o=>?_
 ·rw[f _ B];exact Wl (Kq B)
 ·obtain⟨p,N,e⟩:=Zt.mp o
  obtain⟨i,h,g⟩:=Qf N
  subst g;subst e;have:=A.2 i (by simp only[Zr];omega)
  rw[f i h] at this;exact this
def tK{l:List D}{d:List Int}{m:Int}(g:X.calm=true)(h:cj l=some d)(i:maxI d=some m):bV X (.builtin "max") [.lst l] (.val (.int m)):=⟨_,tJ g,λn o H F s t u Q R q k=>by
 obtain⟨v,e,q⟩:=q.one
 obtain⟨p,w,j,f,r⟩:=q.lst
 rw[j] at e;rw[kB h r] at f;exact⟨p,d,m,e,R.sub.seq f,i,k _ H F (Same.refl _) R RW.int⟩⟩
end
def Mj(K:vE)(a:Addr)(d:List V):It:=
 ⟨λi H=>SqL K H a d/\∃x,d.reverse[i]? = some x,λi H x e=>e=H/\d.reverse[i]? = some x,λi H=>SqL K H a d/\d.length<=i⟩
def tL{P:Program}{w:World}{K:vE}{U:Expr}(a m:Addr)(j:List V):Turn P w K U (Mj K a j) [m] m (λi h=>i<=j.length/\h.IsRevIter m a ((j.length:Int)-1-(i:Int))) where
 mem:=by simp
 obj:=λi h f b n=>by
  have e:b=m:=by simpa using n
  subst e;obtain⟨_,o,e,c,d⟩:=f
  exact⟨o,e,λv z=>by rw[d] at z;cases z⟩
 keep:=λi h t f k=>⟨f.1,f.2.at λo e=>k m vC o e⟩
 item:=by
  intro X B C D R i l s S H E I A f F;subst B C D;obtain⟨T,x,r⟩:=F
  obtain⟨Y,Z,p,hz⟩:=I.list T
  have G:i<j.length:=by have:=(Zi.mp r).1;rwa [W3] at this
  rw[Vt G] at r;obtain⟨u,hu,ru⟩:=Z.get r
  obtain⟨J,L,f2,M,N,O⟩:=A m vC
  have Q:(j.length:Int)-1-(i:Int)=((j.length-1-i:Nat):Int):=by omega
  have g:=f.2;rw[Q] at g;refine wpAny_pyNext_rev_item g p.isList (x:=u) (by simpa using hu) λt q sb=>?_;have I1:Inv X l S H {s with heap:=t}:=I.turned (t':=s.toks) (λb o n e=>(sb.2 b n).trans e) J L M N O;obtain⟨o,e,c,d⟩:=id q
  have e3:((j.length-1-i:Nat):Int)-1=(j.length:Int)-1-((i+1:Nat):Int):=by omega
  rw[e3] at q;exact⟨u,rfl,ik (s:={s with heap:=t}) e c d vA ⟨x,H,I1,ru,⟨rfl,by rw[Vt G];exact r⟩,⟨G,q⟩,λb n=>(A b n).1⟩⟩
 done:=by
  intro X B C D R i l s S H E I A f F;subst B C D;obtain⟨T,r⟩:=F
  obtain⟨J,L,f2,M,N,O⟩:=A m vC
  have Q:(j.length:Int)-1-(i:Int) = -1:=by have:=f.1;omega
  have g:=f.2;rw[Q] at g;exact wpAny_pyNext_rev_end (I.ok.hd R) g λt eb=>⟨rfl,I.turned (t':=s.toks) (λb o n e=>eb b o n e) J L M N O⟩
 self:=λ_ _ _ _ _ f h=>wpAny_pyIter_revIter f.2 h
def tM:bootBuiltins "reversed" = some (.type "reversed"):=by decide +kernel
section
variable{X:Cx}{tg a:Expr}{p pos:Pos}{ρ:CF}
def L6(K:vE)(f:TA):TI:=λg H R=>f g H λh d=>∃a e,h=[.ref a]/\SqL K d a e/\R (Mj K a e) d
def GC{n:TA}(z:Gl X "reversed")(A:X.mg "reversed" = none)(B:PA X [a] n)(C:starEach [a] X.env=[(false,eval a X.env)]):PI X tg (.Call (.Name "reversed" p) [a] [] pos) (L6 X.K n):=by
 intro f s t H R I h;refine Call_ (cU I z A tM (Y3 (CH (B pos f s t H _ I h) λN g ⟨O,v,i,D,E⟩=>?_) (by rw[C];rfl) (by rfl)));obtain⟨l,w,e,F,q⟩:=E
 subst e;obtain⟨u,e,r⟩:=cI D
 subst e;cases r;obtain⟨d,G,J,P⟩:=i.list F
 have j:d.toArray.size=w.length:=by simp[G.length]
 refine call_reversed_list J.isList ?_;have L:Inv X f t v {g with heap:=g.heap.push (revObj l ((d.toArray.size:Int)-1))}:=i.kept (t':=g.toks) λb o e=>Ze _ e
 have m:(g.heap.push (revObj l ((d.toArray.size:Int)-1))).IsRevIter g.heap.objs.size l ((d.toArray.size:Int)-1):=⟨_,Z4 _ rfl,rfl,rfl⟩;refine wpAny_pyIter_revIter m ⟨_,[g.heap.objs.size],_,_,v,rfl,L,tL l _ w,⟨Y8 _,?_⟩,λb M=>?_,q⟩
 ·rw[j] at m |-;simpa using m
 ·have e:b=g.heap.objs.size:=by simpa using M
  subst e;exact i.fpOk (Zn _) (i.hok.fresh (Zn _))
def tN{K:vE}{F:Hp}{a:Addr}{f:List V}{l:List D}(g:SqL K F a f)(r:DenL K F l f):Walks K F (Mj K a f) l.reverse:=λi q h=>⟨λd m=>by
 obtain⟨y,j,n⟩:=r.rev.get m
 refine⟨⟨h.seq g,y,j⟩,λx o ⟨p,ex⟩=>?_⟩
 rw[j] at ex;cases ex;exact .inl ⟨p,n⟩,λe=>⟨h.seq g,by
 rw[W3] at e;rw[r.length];exact e⟩⟩
def DIe.rev{l:List D}(f:Gl X "reversed")(g:X.mg "reversed" = none)(h:DA X [a] ρ [.lst l])(i:Bd a=true):DIe X tg (.Call (.Name "reversed" p) [a] [] pos) ρ l.reverse:=λj m=>
 PI.mono (GC f g (h j m) (by rw[Bj i];rfl)) λz H R ⟨F,n,k⟩=>⟨F,n,λA o s t R2 q=>by
  obtain⟨v,e,q⟩:=q.one
  obtain⟨a,u,w,d,r⟩:=q.lst
  subst w;exact⟨a,u,e,R2.sub.seq d,k _ o s t R2 (tN d r)⟩⟩
end
open PySem L2 PyProof.Rows
structure BFacts(K:vE):Prop where
 ex:∃C,PySem.W.nsIn K mainGlobals "Bound" = some (some (.ref C))/\Cls K C/\∀f∈flds,NoAttr K C f
def kD:Expr->Bool
 |.Name _ _=>true
 |.Subscript _ _ _=>true
 |_=>false
def tO{o:Expr}{f:Str}{env:Env}(h:kD o=true):attributeBase o f env (eval o env)=eval o env:=by
 cases o<;>first|rfl|(cases h;done)
def DE.fld{X:Cx}{o:Expr}{f:Str}{pos:Pos}{g:CF}{a:Addr}{l:List D}{d:D}{j:Nat}(B:BFacts X.K)(p:DF X o g (.obj a l))(s:kD o=true)(h:flds[j]? = some f)(t:l[j]? = some d):DE X (.Attribute o f pos) g (.val d):=λu w=>
 PE.mono (GJ (p u w) (tO s)) λS H Q ⟨F,R,k⟩=>⟨F,R,λv A E G i I=>by
  obtain⟨e,C,J,m,T,c,q,L,r⟩:=I.obj
  obtain⟨U,n,M,N⟩:=B.ex
  rw[c] at n;cases n;obtain⟨y,O,P⟩:=r.get t
  have lk:m.lookup f=some y:=by
   have:=congrArg (λz=>z[j]?) L
   simp only[Zm,h,O,Wy] at this;exact Zs this
  exact⟨a,C,J,m,y,e,i.sub _ _ q,M,N f (Yh h),lk,k y A E G i (RW.v P)⟩⟩
open PySem L2 PyProof.Rows
def SI:Bool->Heap->Addr->Addr->Nat->Array Value->Prop
 |true,h,i,l,k,d=>h.IsListIter i l k/\h.IsList l d
 |false,h,i,l,k,d=>h.IsTupleIter i l k/\h.IsTuple l d
def SQ:Bool->Heap->Addr->Array Value->Prop
 |true,h,l,d=>h.IsList l d
 |false,h,l,d=>h.IsTuple l d
theorem SI.at{h d:Heap}{i l:Addr}{k:Nat}{f:Array Value}:∀{b:Bool},SI b h i l k f->(∀o,h.get? i=some o->d.get? i=some o)->(∀o,h.get? l=some o->d.get? l=some o)->SI b d i l k f
 |true,⟨e,g⟩,a,b=>⟨e.at a,g.at b⟩
 |false,⟨e,⟨o,j,r⟩⟩,a,b=>⟨e.at a,o,b o j,r⟩
def Hh(b:Bool)(l:Addr):Obj:={cls:=.type (if b=true then "list_iterator" else "tuple_iterator"),data:=.fields #[.ref l,.int 0 0]}
section
variable{prog:Program}{w:World}{A:Around}{E:Value->Shared->Prop}{s:Shared}
def tP{f l:Addr}{i:Nat}{d:Array Value}{x:Value}{Q:Value->Shared->Prop}(e:s.heap.IsTupleIter f l i)(p:s.heap.IsTuple l d)(q:d[i]? = some x)
 (r:∀j,j.IsTupleIter f l (i+1)->Heap.SameBut f s.heap j->Q x {s with heap:=j}):wpAny (model prog w) A (Builtin.SmallTypes.nextOf (.ref f)) Q E s:=by
 obtain⟨o,h,t,g⟩:=id e
 obtain⟨u,m,_,v,n⟩:=p
 unfold Builtin.SmallTypes.nextOf;refine Zd (wpAny_callSpecial?_slot (name:=Str.ofString "__next__") e.typeIs Q4 (Kb Q4 e.typeIs Vp ?_ (Vl _)));show wpAny _ _ (field (.ref f) 0 >>= _) _ _ s;refine Zd (Wa h g (x:=.ref l) rfl ?_);show wpAny _ _ (if (Value.ref l == Value.none)=true then _ else _) _ _ s;rw[if_neg (show ¬((Value.ref l == Value.none)=true) from Z0)];show wpAny _ _ (field (.ref f) 1 >>= _) _ _ s;refine Zd (Wa h g (x:=.int i 0) rfl ?_);show wpAny _ _ (seqItems? (.ref l) >>= _) _ _ s;refine Zd (Wj m n ?_);simp only[Zz,q];refine Zd (wpAny_setField h g vC (Zu ⟨x,rfl,Zu (r _ ?_ (U4 ..))⟩));exact⟨_,Wr _ h (Obj.isFreed_of_fields (Go g _)),(Obj.cls_mapFields ..).trans t,by rw[Go g];simp[rawInt]⟩
def nT{g l:Addr}{i:Nat}{d:Array Value}{x:Value}{Q:Value->Shared->Prop}{b:Bool}(h:SI b s.heap g l i d)(j:l≠g)(m:d[i]? = some x)
 (n:∀f,SI b f g l (i+1) d->Heap.SameBut g s.heap f->Q x {s with heap:=f}):wpAny (model prog w) A (Builtin.SmallTypes.nextOf (.ref g)) Q E s:=by
 cases b with
 |true=>exact Jx h.1 h.2 m λf a k=>n f ⟨a,h.2.at λo e=>(k.2 l j).trans e⟩ k
 |false=>
  refine tP h.1 h.2 m λf a k=>n f ⟨a,?_⟩ k
  obtain⟨o,p,r⟩:=h.2
  exact⟨o,(k.2 l j).trans p,r⟩
def tQ{g l:Addr}{i:Nat}{d:Array Value}{Q:Value->Shared->Prop}(r:A.handled=none)(f:s.heap.IsTupleIter g l i)(t:s.heap.IsTuple l d)(u:d[i]? = none)
 (v:∀h e,Heap.ExtBut g s.heap h->(∃o,h.get? e=some o/\o.cls=.type "StopIteration")->E (.ref e) {s with heap:=h}):wpAny (model prog w) A (Builtin.SmallTypes.nextOf (.ref g)) Q E s:=by
 obtain⟨o,j,z,n⟩:=id f
 obtain⟨B,p,_,C,q⟩:=t
 unfold Builtin.SmallTypes.nextOf;refine Zd (wpAny_callSpecial?_slot (name:=Str.ofString "__next__") f.typeIs Q4 (Kb Q4 f.typeIs Vp ?_ (Vl _)));show wpAny _ _ (field (.ref g) 0 >>= _) _ _ s;refine Zd (Wa j n (x:=.ref l) rfl ?_);show wpAny _ _ (if (Value.ref l == Value.none)=true then _ else _) _ _ s;rw[if_neg (show ¬((Value.ref l == Value.none)=true) from Z0)];show wpAny _ _ (field (.ref g) 1 >>= _) _ _ s;refine Zd (Wa j n (x:=.int i 0) rfl ?_);show wpAny _ _ (seqItems? (.ref l) >>= _) _ _ s;refine Zd (Wj p q ?_);simp only[Zz,u];refine Zd (Jo (Zd (wpAny_setField j n vC ?_)));show wpAny _ _ (newExc (.type "StopIteration") [] >>= _) _ _ _;refine Zd ?_;simp only[newExc,newTuple];refine Zd (Jp ?_ (by size_fits));refine Zd (m:=firstArgMember _ _) (wpAny_of_eq (a:=Value.none) (by first|rfl|(simp only[firstArgMember];rfl)) ?_);refine Jp ?_ (by size_fits);simp only[raiseNew];refine Zd (wpAny_handled ?_);first|rw[show A.in1.handled=none from r]|rw[r]
 refine Zd (Zu (wpAny_throw ?_));exact v _ _ (((U4 ..).extBut.push _).push _) ⟨_,Z4 _ rfl,rfl⟩
def GO{f l:Addr}{i:Nat}{d:Array Value}{Q:Value->Shared->Prop}{b:Bool}(j:A.handled=none)(h:SI b s.heap f l i d)(m:d[i]? = none)
 (n:∀g e,Heap.ExtBut f s.heap g->(∃o,g.get? e=some o/\o.cls=.type "StopIteration")->E (.ref e) {s with heap:=g}):wpAny (model prog w) A (Builtin.SmallTypes.nextOf (.ref f)) Q E s:=by
 cases b with
 |true=>exact Gv j h.1 h.2 m n
 |false=>exact tQ j h.1 h.2 m n
def nU{l:Addr}{e:Array Value}{Q:Value->Shared->Prop}{b:Bool}(h:SQ b s.heap l e)(d:Q (.ref s.heap.objs.size) {s with heap:=s.heap.push (Hh b l)}):wpAny (model prog w) A (pyIter (.ref l)) Q E s:=by
 cases b with
 |true=>exact U7 h d
 |false=>exact wpAny_pyIter_tuple h d
def tR{z TI TO n p l1 l2:Addr}{b1 U:Bool}{N O:Nat}{P R:Array Value}{x y a b:Value}{Q:Option Value->Shared->Prop}(D:ZipApart z TI TO n p l1 l2)(C:IsZip s.heap z TI TO .none)(V:IsPair s.heap TI (.ref n) (.ref p))(W:IsPair s.heap TO a b)
 (h1:SI b1 s.heap n l1 N P)(h2:SI U s.heap p l2 O R)(hx:P[N]? = some x)(hy:R[O]? = some y)
 (hQ:∀u,IsZip u z TI TO (rawInt s.heap.objs.size)->IsPair u TO x y->SI b1 u n l1 (N+1) P->SI U u p l2 (O+1) R->IsPair u s.heap.objs.size x y ->
   (∀c o,c≠z->c≠TO->c≠n->c≠p->s.heap.get? c=some o->u.get? c=some o)->Q (some (.ref s.heap.objs.size)) {s with heap:=u}):
  wpAny (model prog w) A (pyNext (.ref z)) Q E s:=by
 have F:s.TypeIs (.ref z) "zip" := ⟨_,C,rfl⟩;unfold pyNext;refine Zd (Uz (wpAny_callSpecial?_slot (name:=Str.ofString "__next__") F Qe (Kb Qe F Jt ?_ (Jn _))));show wpAny _ _ (field (.ref z) 2 >>= _) _ _ _;refine Zd (Wa C rfl (x:=.bool false) rfl ?_);show wpAny _ _ (field (.ref z) 3 >>= _) _ _ _;refine Zd (Wa C rfl (x:=.ref TI) rfl ?_);refine Zd (Wj V rfl ?_);show wpAny _ _ (Builtin.SmallTypes.ownedTupleIsFree (.ref z) >>= _) _ _ _;refine Zd ?_;unfold Builtin.SmallTypes.ownedTupleIsFree;refine Zd (Wa C rfl (x:=.none) rfl (Zu ?_));simp only[if_true];refine Zd (Jo ?_);refine Zd (Wa C rfl (x:=.ref TO) rfl ?_);refine Zd (Qt C vC λg1 v G=>?_);replace v:IsZip g1 z TI TO .ellipsis:=v
 refine Zd ?_;simp only[Uu,List.zipIdx_nil,Kw,J0];refine Zd (Zd (Ga ?_));show wpAny _ _ (Builtin.SmallTypes.nextOf (.ref n) >>= _) _ _ _;have X:∀c o,c≠z->s.heap.get? c=some o->g1.get? c=some o:=λc o h e=>G.extBut _ _ h e
 refine Zd (nT (h1.at (λo e=>X _ o D.i1z e) λo e=>X _ o D.l1z e) D.l1i1 hx λg2 Y B=>Zu ?_);have e2:∀c o,c≠z->c≠n->s.heap.get? c=some o->g2.get? c=some o:=λc o h q e=>B.extBut _ _ q (X c o h e)
 have r:IsPair g2 TO a b:=e2 _ _ D.TOz D.TOi1 W;refine Zd (Wj r rfl ?_);refine Zd (wpAny_updateSeq_pair r λg3 l m=>?_);replace l:IsPair g3 TO x b:=l
 refine Zd (Je (Zu ?_));refine Zd (Zd (Ga ?_));show wpAny _ _ (Builtin.SmallTypes.nextOf (.ref p) >>= _) _ _ _;have Z:∀c o,c≠z->c≠n->c≠TO->s.heap.get? c=some o->g3.get? c=some o:=λc o h q H e=>m.extBut _ _ H (e2 c o h q e)
 refine Zd (nT (h2.at (λo e=>Z _ o D.i2z D.i12.symm D.TOi2.symm e) λo e=>Z _ o D.l2z D.l2i1 D.l2TO e) D.l2i2 hy λg4 a0 i=>Zu ?_);have t:IsPair g4 TO x b:=i.extBut _ _ D.TOi2 l;refine Zd (Wj t rfl ?_);refine Zd (wpAny_updateSeq_pair t λf g d=>?_);replace g:IsPair f TO x y:=g
 refine Zd (Je (Zu (Zu ?_)));refine Zd (Wj g rfl ?_);refine Zd (wpAny_newTuple ?_);have I:f.objs.size=s.heap.objs.size:=by rw[d.1,i.1,m.1,B.1,G.1]
 have z5:IsZip f z TI TO .ellipsis:=d.extBut _ _ D.TOz.symm (i.extBut _ _ D.i2z.symm (m.extBut _ _ D.TOz.symm (B.extBut _ _ D.i1z.symm v)));have e5:∀c o,c≠z->c≠TO->c≠n->c≠p->s.heap.get? c=some o->f.get? c=some o:=λc o h q H c4 e=>d.extBut _ _ q (i.extBut _ _ c4 (Z c o h H q e))
 have a1:SI b1 f n l1 (N+1) P:=Y.at (λo e=>d.extBut _ _ D.TOi1.symm (i.extBut _ _ D.i12 (m.extBut _ _ D.TOi1.symm e))) λo e=>d.extBut _ _ D.l1TO (i.extBut _ _ D.l1i2 (m.extBut _ _ D.l1TO e))
 have a2:SI U f p l2 (O+1) R:=a0.at (λo e=>d.extBut _ _ D.TOi2.symm e) λo e=>d.extBut _ _ D.l2TO e
 have J:z<f.objs.size:=Zo z5;show wpAny _ _ (Builtin.SmallTypes.ownedTupleHandOut (.ref z) (.ref f.objs.size) >>= _) _ _ _;refine Zd ?_;unfold Builtin.SmallTypes.ownedTupleHandOut;have z6:IsZip (f.push {cls:=.type "tuple",data:=.seq #[x,y]}) z TI TO .ellipsis:=Ze _ z5;refine Zd (Qt z6 vC λg7 z7 K=>?_);replace z7:IsZip g7 z TI TO (rawInt f.objs.size):=z7
 refine Qt z7 vC λS T L=>?_;replace T:IsZip S z TI TO (rawInt f.objs.size):=T
 have j:∀c o,c≠z->f.get? c=some o->S.get? c=some o:=λc o h e=>L.extBut _ _ h (K.extBut _ _ h (Ze _ e))
 have M:IsPair S f.objs.size x y:=L.extBut _ _ (Yd J) (K.extBut _ _ (Yd J) (Z4 _ rfl));rw[I] at T M;refine Zu ⟨_,rfl,Zu ?_⟩;show Q (some (.ref f.objs.size)) _;rw[I];exact hQ S T (j _ _ D.TOz g) (a1.at (λo e=>j _ o D.i1z e) λo e=>j _ o D.l1z e) (a2.at (λo e=>j _ o D.i2z e) λo e=>j _ o D.l2z e) M λc o h q H c4 e=>j c o h (e5 c o h q H c4 e)
def Fu{z TI TO h B l1 l2:Addr}{b1:Bool}{C:Nat}{F:Array Value}{a b:Value}{Q:Option Value->Shared->Prop}(G:A.handled=none)(D:ZipApart z TI TO h B l1 l2)(g:IsZip s.heap z TI TO .none)(r:IsPair s.heap TI (.ref h) (.ref B))(J:IsPair s.heap TO a b)
 (K:SI b1 s.heap h l1 C F)(L:F[C]? = none)
 (M:∀H,(∀c o,c≠z->c≠h->s.heap.get? c=some o->H.get? c=some o)->Q none {s with heap:=H}):wpAny (model prog w) A (pyNext (.ref z)) Q E s:=by
 have i:s.TypeIs (.ref z) "zip" := ⟨_,g,rfl⟩;unfold pyNext;refine Zd (Uz (wpAny_callSpecial?_slot (name:=Str.ofString "__next__") i Qe (Kb Qe i Jt ?_ (Jn _))));show wpAny _ _ (field (.ref z) 2 >>= _) _ _ _;refine Zd (Wa g rfl (x:=.bool false) rfl ?_);show wpAny _ _ (field (.ref z) 3 >>= _) _ _ _;refine Zd (Wa g rfl (x:=.ref TI) rfl ?_);refine Zd (Wj r rfl ?_);show wpAny _ _ (Builtin.SmallTypes.ownedTupleIsFree (.ref z) >>= _) _ _ _;refine Zd ?_;unfold Builtin.SmallTypes.ownedTupleIsFree;refine Zd (Wa g rfl (x:=.none) rfl (Zu ?_));simp only[if_true];refine Zd (Jo ?_);refine Zd (Wa g rfl (x:=.ref TO) rfl ?_);refine Zd (Qt g vC λI d t=>?_);replace d:IsZip I z TI TO .ellipsis:=d
 refine Zd ?_;simp only[Uu,List.zipIdx_nil,Kw,J0];refine Zd (Zd (Ga ?_));show wpAny _ _ (Builtin.SmallTypes.nextOf (.ref h) >>= _) _ _ _;have u:∀c o,c≠z->s.heap.get? c=some o->I.get? c=some o:=λc o p e=>t.extBut _ _ p e
 refine Zd (GO (by first|exact G|simp[G]) (K.at (λo e=>u _ o D.i1z e) λo e=>u _ o D.l1z e) L λN e j O=>?_);obtain⟨P,f,l⟩:=O
 have m:IsZip N z TI TO .ellipsis:=j _ _ D.i1z.symm d;have v:e≠z:=λx=>by subst x;rw[m] at f;cases f;simp at l
 refine Qt m vC λg3 _ n=>?_;refine Zd (wpAny_isInstance (T := "StopIteration") (b:=true) ⟨P,n.extBut _ _ v f,l⟩ isSubtype_stop ?_);exact Zu (M _ λc o p R q=>n.extBut _ _ p (j _ _ R (u c o p q)))
end
open PySem L2 PyProof.Rows
abbrev Ln(h:Heap)(b1:Bool)(l1:Addr):Heap:=h.push (Hh b1 l1)
abbrev Lm(h:Heap)(b1 d:Bool)(l1 l2:Addr):Heap:=(Ln h b1 l1).push (Hh d l2)
abbrev Ll(h:Heap)(b1 d:Bool)(l1 l2:Addr):Heap:=(Lm h b1 d l1 l2).push {cls:=.type "tuple",data:=.seq #[.ref h.objs.size,.ref (Ln h b1 l1).objs.size]}
abbrev Lk(h:Heap)(b1 d:Bool)(l1 l2:Addr):Heap:=(Ll h b1 d l1 l2).push {cls:=.type "tuple",data:=.seq #[.none,.none]}
abbrev Fv(h:Heap)(b1 d:Bool)(l1 l2:Addr):Heap:=(Lk h b1 d l1 l2).push {cls:=.type "zip",data:=.fields #[.none,.bool false,.bool false,.ref (Lm h b1 d l1 l2).objs.size,.ref (Ll h b1 d l1 l2).objs.size]}
theorem SQ.push{h:Heap}{l:Addr}{d:Array Value}{o:Obj}:∀{b:Bool},SQ b h l d->SQ b (h.push o) l d
 |true,q=>Heap.IsList.push q _
 |false,q=>Heap.IsTuple.push q _
def tT(l1 l2:Addr)(b1 e:Bool)(f i:Array Value):
  Meets (Builtin.«zip.__new__» ⟨[.type "zip", .ref l1,.ref l2],[]⟩) (λ_ R s=>SQ b1 s.heap l1 f/\SQ e s.heap l2 i/\R (.ok (.ret (.ref (Lk s.heap b1 e l1 l2).objs.size))) {s with heap:=Fv s.heap b1 e l1 l2}):=
 .of_wp λj w A R s h=>by
  obtain⟨l,g,d,m,os⟩:=s
  obtain⟨o,p,h⟩:=h
  have n:=sub_zip;have q:SQ b1 (Shared.heap ⟨l,g,d,m,os⟩) l1 f:=o;have r:SQ e (Shared.heap ⟨l.push (Hh b1 l1),g,d,m,os⟩) l2 i:=SQ.push p;wp_walk using nU q,nU r
  exact⟨_,rfl,h⟩
section
variable{prog:Program}{w:World}{A:Around}{E:Value->Shared->Prop}{s:Shared}
theorem SI.new{h:Heap}{i l:Addr}{d:Array Value}:∀{b:Bool},h.get? i=some (Hh b l)->SQ b h l d->SI b h i l 0 d
 |true,e,q=>⟨⟨_,e,rfl,rfl⟩,q⟩
 |false,e,q=>⟨⟨_,e,rfl,rfl⟩,q⟩
theorem SQ.at{h d:Heap}{l:Addr}{e:Array Value}:∀{b:Bool},SQ b h l e->(∀o,h.get? l=some o->d.get? l=some o)->SQ b d l e
 |true,q,k=>Heap.IsList.at q k
 |false,⟨o,f,r⟩,k=>⟨o,k o f,r⟩
def tU{l1 l2:Addr}{b1 d:Bool}{g i:Array Value}{Q:Value->Shared->Prop}(q:SQ b1 s.heap l1 g)(r:SQ d s.heap l2 i)
 (h:∀f,IsZip f (s.heap.objs.size+4) (s.heap.objs.size+2) (s.heap.objs.size+3) .none->IsPair f (s.heap.objs.size+2) (.ref s.heap.objs.size) (.ref (s.heap.objs.size+1)) ->
   IsPair f (s.heap.objs.size+3) .none .none->SI b1 f s.heap.objs.size l1 0 g->SI d f (s.heap.objs.size+1) l2 0 i ->
   (∀c o,s.heap.get? c=some o->f.get? c=some o)->Q (.ref (s.heap.objs.size+4)) {s with heap:=f}):
  wpAny (model prog w) A (call (.type "zip") [.ref l1,.ref l2]) Q E s:=by
 refine callType_new F.called_zip vA (F.typeCall_zip_2 _ _) (F.newCall_zip_2 _ _) (λj=>F.args_object_init_3 j _ _) F.entry_zip_new (tT l1 l2 b1 d g i) ⟨q,r,?_⟩;have l:(Ln s.heap b1 l1).objs.size=s.heap.objs.size+1:=Ql ..;have m:(Lm s.heap b1 d l1 l2).objs.size=s.heap.objs.size+2:=by rw[Ql,l]
 have n:(Ll s.heap b1 d l1 l2).objs.size=s.heap.objs.size+3:=by rw[Ql,m]
 have t:(Lk s.heap b1 d l1 l2).objs.size=s.heap.objs.size+4:=by rw[Ql,n]
 have up:∀c o,s.heap.get? c=some o->(Fv s.heap b1 d l1 l2).get? c=some o:=λc o e=>Ze _ (Ze _ (Ze _ (Ze _ (Ze _ e))))
 have p:(Fv s.heap b1 d l1 l2).get? (Lk s.heap b1 d l1 l2).objs.size=some _:=Z4 _ rfl;have u:(Fv s.heap b1 d l1 l2).get? (Ll s.heap b1 d l1 l2).objs.size=some _:=Ze _ (Z4 _ rfl);have g3:(Fv s.heap b1 d l1 l2).get? (Lm s.heap b1 d l1 l2).objs.size=some _:=Ze _ (Ze _ (Z4 _ rfl));have v:(Fv s.heap b1 d l1 l2).get? (Ln s.heap b1 l1).objs.size=some (Hh d l2):=Ze _ (Ze _ (Ze _ (Z4 _ rfl)));have z:(Fv s.heap b1 d l1 l2).get? s.heap.objs.size=some (Hh b1 l1):=Ze _ (Ze _ (Ze _ (Ze _ (Z4 _ rfl))));show _/\_;rw[m,n,t] at p;rw[l,m] at g3;rw[n] at u;rw[l] at v;rw[t];exact⟨⟨_,p,rfl⟩,h _ p g3 u (SI.new z (q.at λo e=>up _ o e)) (SI.new v (r.at λo e=>up _ o e)) up⟩
end
def SqB(K:vE)(H:Hp):Bool->Addr->List V->Prop
 |true,a,d=>SqL K H a d
 |false,a,d=>SqT K H a d
theorem fY{X:Cx}{e:List (Addr×Obj)}{i:L2.St}{H:Hp}{s:Shared}(I:Inv X e i H s){a:Addr}{g:List V}:∀{b:Bool},SqB X.K H b a g->∃d:List Value,Vals g d/\SQ b s.heap a d.toArray
 |true,h=>by
  obtain⟨d,f,p,_⟩:=I.list h
  exact⟨d,f,p.isList⟩
 |false,h=>by
  obtain⟨d,f,p,_⟩:=I.tuple h
  exact⟨d,f,p⟩
def Mh(K:vE)(b1 f:Bool)(a b:Addr)(d e:List V):It:=
 ⟨λi H=>SqB K H b1 a d/\SqB K H f b e/\(∃x y,d[i]? = some x/\e[i]? = some y),λi H z g=>∃p x y,H p=none/\z=.ref p/\g=upd H p (.tup [x,y])/\d[i]? = some x/\e[i]? = some y,λi H=>SqB K H b1 a d/\d.length<=i⟩
def IT:Bool->Heap->Addr->Addr->Nat->Prop
 |true,h,i,l,k=>h.IsListIter i l k
 |false,h,i,l,k=>h.IsTupleIter i l k
theorem IT.si{h:Heap}{i l:Addr}{k:Nat}{d:Array Value}:∀{b:Bool},IT b h i l k->SQ b h l d->SI b h i l k d
 |true,a,q=>⟨a,q⟩
 |false,a,q=>⟨a,q⟩
theorem SI.it{h:Heap}{i l:Addr}{k:Nat}{d:Array Value}:∀{b:Bool},SI b h i l k d->IT b h i l k
 |true,h=>h.1
 |false,h=>h.1
theorem IT.at{h d:Heap}{i l:Addr}{k:Nat}:∀{b:Bool},IT b h i l k->(∀o,h.get? i=some o->d.get? i=some o)->IT b d i l k
 |true,a,e=>Heap.IsListIter.at a e
 |false,a,e=>Heap.IsTupleIter.at a e
theorem IT.obj{h:Heap}{i l:Addr}{k:Nat}:∀{b:Bool},IT b h i l k->∃o,h.get? i=some o/\∀v,o.data ≠ .cell v
 |true,⟨o,e,c,d⟩=>⟨o,e,λv z=>by rw[d] at z;cases z⟩
 |false,⟨o,e,c,d⟩=>⟨o,e,λv z=>by rw[d] at z;cases z⟩
def tV{P:Program}{w:World}{K:vE}{F:List Expr}{x1}{tp:Pos}(b1 b2:Bool)(l1 l2 z TI TO r t:Addr)(xs ys:List V)(D:ZipApart z TI TO r t l1 l2):
  Turn P w K (.Tuple F x1 tp) (Mh K b1 b2 l1 l2 xs ys) [z,TI,TO,r,t] z (λi h=>IsZip h z TI TO .none/\IsPair h TI (.ref r) (.ref t)/\(∃a b,IsPair h TO a b)/\IT b1 h r l1 i/\IT b2 h t l2 i) where
 mem:=by simp
 obj:=λi h f b l=>by
  obtain⟨m,u,⟨a,c,N⟩,O,Q⟩:=f
  simp only[Zf,Zk,or_false] at l;rcases l with e|e|e|e|e<;>subst e
  ·exact⟨_,m,λv z=>by cases z⟩
  ·exact⟨_,u,λv z=>by cases z⟩
  ·exact⟨_,N,λv z=>by cases z⟩
  ·exact O.obj
  ·exact Q.obj
 keep:=λi h R f k=>by
  obtain⟨m,u,⟨a,c,N⟩,O,Q⟩:=f
  exact⟨k z vC _ m,k TI vC _ u,⟨a,c,k TO vC _ N⟩,O.at λo q=>k r vC o q,Q.at λo q=>k t vC o q⟩
 item:=by
  intro X S T U hc i p s σ H E I J f Y;subst S T U;obtain⟨L,d,⟨a,c,g⟩,m,u⟩:=f
  obtain⟨A,Z,x,y,hx,hy⟩:=Y
  obtain⟨G,B,p1⟩:=fY I A
  obtain⟨ae,a0,p2⟩:=fY I Z
  obtain⟨u1,a6,a7⟩:=B.get hx
  obtain⟨u2,a8,a9⟩:=a0.get hy
  refine tR D L d g (m.si p1) (u.si p2) (by simpa using a6) (by simpa using a8) λR a1 a2 a3 a4 a5 M=>⟨_,rfl,?_⟩
  refine wpAny_letOwnedTupleGo_zip a1 λj aa ab=>?_;have zl:z<s.heap.objs.size:=Zo L;have lt:∀b∈[z,TI,TO,r,t],b<s.heap.objs.size:=λb l=>by
   simp only[Zf,Zk,or_false] at l;rcases l with e|e|e|e|e<;>subst e
   ·exact zl
   ·exact Zo d
   ·exact Zo g
   ·obtain⟨o,q,_⟩:=m.obj;exact Zo q
   ·obtain⟨o,q,_⟩:=u.obj;exact Zo q
  have up:∀b o,b≠z->R.get? b=some o->j.get? b=some o:=λb o n q=>(ab.2 b n).trans q
  have ht:j.get? s.heap.objs.size=some {cls:=.type "tuple",data:=.seq #[u1,u2]}:=up _ _ (Yd zl) a5;have hk:∀b C,b∉[z,TI,TO,r,t]->s.heap.get? b=some C->j.get? b=some C:=λb C n q=>by
   simp only[Zf,Zk,or_false,not_or] at n;exact up b C n.1 (M b C n.1 n.2.2.1 n.2.2.2.1 n.2.2.2.2 q)
  have I2:Inv X p σ (upd H s.heap.objs.size (.tup [x,y])) {s with heap:=j,toks:=s.toks}:=
   Inv.turnedN I J hk (Zn _) ⟨by show 2<=sizeLine;decide,[u1,u2],.cons a7 #v[a9],⟨_,ht,rfl,_,rfl⟩⟩
  refine⟨.ref s.heap.objs.size,_,I2,rfl,⟨_,x,y,I.hok.fresh (Zn _),rfl,rfl,hx,hy⟩,⟨aa,up _ _ D.TIz (M _ _ D.TIz D.TITO D.TIi1 D.TIi2 d),⟨_,_,up _ _ D.TOz a2⟩,a3.it.at λo q=>up _ o D.i1z q,a4.it.at λo q=>up _ o D.i2z q⟩,λb l=>?_⟩
  rw[Bg (Yj (lt b l))];exact(J b l).1
 done:=by
  intro X S T U hc i p s σ H E I J f Y;subst S T U;obtain⟨L,d,⟨a,c,g⟩,m,u⟩:=f
  obtain⟨A,hx⟩:=Y
  obtain⟨G,B,p1⟩:=fY I A
  have hl:=B.length;refine Fu (I.ok.hd hc) D L d g (m.si p1) (by simp;omega) λR M=>⟨rfl,?_⟩
  exact Inv.turnedF (t':=s.toks) I J λb C n q=>by
   simp only[Zf,Zk,or_false,not_or] at n;exact M b C n.1 n.2.2.2.1 q
 self:=λ_ _ _ _ _ f h=>Vm f.1 h
theorem SqB.mono{K:vE}{F H:Hp}(s:Same F H){a:Addr}{d:List V}:∀{b:Bool},SqB K F b a d->SqB K H b a d
 |true,h=>s.seq h
 |false,h=>Same.tup s h
section
variable{X:Cx}{elts:List Expr}{x1:Nat}{tp:Pos}
def iZg(K:vE)(i:TA):TI:=λj H R=>i j H λl d=>∃e f a b g h,l=[.ref a,.ref b]/\SqB K d e a g/\SqB K d f b h/\R (Mh K e f a b g h) d
def kE{a b:Expr}{w:TA}{p pos:Pos}(J:Gl X "zip")(L:X.mg "zip" = none)(M:PA X [a,b] w)(N:starEach [a,b] X.env=[(false,eval a X.env),(false,eval b X.env)])(g:starEach [b] X.env=[(false,eval b X.env)]):PI X (.Tuple elts x1 tp) (.Call (.Name "zip" p) [a,b] [] pos) (iZg X.K w):=by
 intro f s z H R I h;refine Call_ (cU I J L tH (Y3 (CH (M pos f s z H _ I h) λus d ⟨vs,A,i,O,P⟩=>?_) (by rw[N,g]) (by rw[g];rfl)));obtain⟨Q,S,l,m,T,U,e,V,n,q⟩:=P
 subst e;obtain⟨u,u2,e,r,W⟩:=iu O
 subst e;cases r;cases W;obtain⟨Y,rv,B⟩:=fY i V
 obtain⟨C,Z,D⟩:=fY i n
 have lt:∀{b:Bool}{c:Addr}{E:Array Value},SQ b d.heap c E->c<d.heap.objs.size:=λ{b c E} k=>by
  cases b with
  |true=>obtain⟨o,t,_⟩:=k;exact Zo t
  |false=>obtain⟨o,t,_⟩:=k;exact Zo t
 refine tU B D λh1 F g2 g3 g4 g5 v=>?_;have I2:Inv X f z A {d with heap:=h1}:=i.kept (t':=d.toks) v;refine Vm F ⟨_,[d.heap.objs.size+4,d.heap.objs.size+2,d.heap.objs.size+3,d.heap.objs.size,d.heap.objs.size+1],_,_,A,rfl,I2,tV Q S l m _ _ _ _ _ T U (nJ (lt B) (lt D)),⟨F,g2,⟨_,_,g3⟩,g4.it,g5.it⟩,λb G=>?_,q⟩;have j:d.heap.objs.size<=b:=by
  simp only[Zf,Zk,or_false] at G;rcases G with e|e|e|e|e<;>subst e
  ·exact Wc _ _
  ·exact Wc _ _
  ·exact Wc _ _
  ·exact Zn _
  ·exact Wc _ _
 exact i.fpOk j (i.hok.fresh j)
def kF{K:vE}{F:Hp}{b1 t:Bool}{a b:Addr}{g h:List V}{l m:List D}(u:SqB K F b1 a g)(j:SqB K F t b h)(r:DenL K F l g)(B:DenL K F m h)(M:l.length=m.length):Walks K F (Mh K b1 t a b g h) (CN l m):=λi N n=>⟨λd o=>by
 unfold CN at o;rw[Zm] at o;obtain⟨q,s,e⟩:=Zb.mp o
 rw[Q3] at s;obtain⟨C,v,E⟩:=r.get s.1
 obtain⟨G,w,H⟩:=B.get s.2
 subst e;refine⟨⟨u.mono n,j.mono n,C,G,v,w⟩,λx I ⟨p,O,P,J,ex,L,z,A⟩=>?_⟩
 rw[v] at z;rw[w] at A;cases z;cases A;exact .inr ⟨p,_,[q.1,q.2],J,L,ex,rfl,DenL.cons E (DenL.cons H DenL.nil)⟩,λf=>⟨u.mono n,by
 unfold CN at f;rw[Zc,Jr] at f;have:=r.length
 omega⟩⟩
def sqD:D->Option (List D)
 |.lst l=>some l
 |.tup l=>some l
 |_=>none
def eX{K:vE}{F:Hp}{d:D}{l:List D}{v:V}(h:sqD d=some l)(q:Den K F d v):∃b a f,v=.ref a/\SqB K F b a f/\DenL K F l f:=by
 cases d<;>first|(cases h;done)|skip
 ·cases h;obtain⟨a,f,e,g,r⟩:=q.tup
  exact⟨false,a,f,e,g,r⟩
 ·cases h;obtain⟨a,f,e,g,r⟩:=q.lst
  exact⟨true,a,f,e,g,r⟩
def DI.zg{a b:Expr}{p pos:Pos}{d1 d2:D}{l m:List D}{g:CB}(i:Gl X "zip")(j:X.mg "zip" = none)(n:DA X [a,b] (view g) [d1,d2])(o:sqD d1=some l)(s:sqD d2=some m)(t:Bd a=true)(d:Bd b=true)(w:l.length=m.length):
  DI X (.Tuple elts x1 tp) (.Call (.Name "zip" p) [a,b] [] pos) g (CN l m) (frz g):=λz A=>
 PI.mono (kE i j (n z A) (by rw[Bj t,Bj d];rfl) (by rw[Bj d];rfl)) λV H R ⟨F,S,k⟩=>by
  obtain⟨W,B⟩:=S.borrow
  refine⟨_,B,λY C E G R2 q=>?_⟩
  obtain⟨I,J⟩:=S.freeze G R2
  obtain⟨v,u,e,K,L⟩:=q.two
  obtain⟨M,a,N,O,h,r⟩:=eX o K
  obtain⟨P,b,Q,T,f,U⟩:=eX s L
  subst O;subst T;exact⟨M,P,a,b,N,Q,e,h.mono R2.sub,f.mono R2.sub,k _ C E I J (kF h f r U w)⟩
def DIe.zg{a b:Expr}{p pos:Pos}{d1 d2:D}{l m:List D}{g:CF}(i:Gl X "zip")(j:X.mg "zip" = none)(n:DA X [a,b] g [d1,d2])(o:sqD d1=some l)(s:sqD d2=some m)(t:Bd a=true)(d:Bd b=true)(w:l.length=m.length):
  DIe X (.Tuple elts x1 tp) (.Call (.Name "zip" p) [a,b] [] pos) g (CN l m):=λz A=>
 PI.mono (kE i j (n z A) (by rw[Bj t,Bj d];rfl) (by rw[Bj d];rfl)) λS H R ⟨F,B,k⟩=>⟨F,B,λT C E G R2 q=>by
  obtain⟨v,u,e,I,J⟩:=q.two
  obtain⟨K,a,L,M,h,r⟩:=eX o I
  obtain⟨N,b,O,P,f,Q⟩:=eX s J
  subst M;subst P;exact⟨K,N,a,b,L,O,e,h.mono R2.sub,f.mono R2.sub,k _ C E G R2 (kF h f r Q w)⟩⟩
end
open PySem L2 PyProof.Rows
section
variable{prog:Program}{w:World}{A:Around}{E:Value->Shared->Prop}{s:Shared}
end
section
variable{X:Cx}
end
open PySem L2 PyProof.Rows
inductive Op where
 |add|sub|mul|fdiv|mod|pow
inductive Cm where
 |lt|le|gt|ge|eq|ne|isN|notN|isin|notin
inductive Ty where
 |int|bool|tuple|list
inductive Bi where
 |len|abs|min|max|sum|srt
inductive Fm where
 |ss|rev|lset|tupl|zip
inductive Tg where
 |name (i:Nat)|tup (l:List Nat)
mutual
inductive E where
 |var (i:Nat)|int (i:Int)|bl (b:Bool)|non
 |bin (o:Op) (a b:E)|neg (a:E)|cmp (c:Cm) (a b:E)
 |and (a b:E)|or (a b:E)|not (a:E)|ife (c a b:E)
 |tup (l:Es)|lst (l:Es)|ix (a b:E)|sl (a:E) (lo hi:EO)
 |call (f:Nat) (l:Es)|bi (f:Bi) (l:Es)|isi (a:E) (t:Ty)|isx (a:E) (ys:List Str)
 |idx (a b:E)|fld (a:E) (j:Nat)|fm (f:Fm) (l:Es)|lcp (a:E)|comp (elt:E) (t:Tg) (it:It') (nt:Nat) (fr:List Nat) (c:EO)
inductive Es where
 |nil|cons (e:E) (l:Es)
inductive EO where
 |non|som (e:E)
inductive It' where
 |seq (e:E)|seqV (i:Nat)|range1 (a:E)|range2 (a b:E)|enum (e:E)|rev (e:E)|zip (a b:E)|zipV (i j:Nat)
end
mutual
inductive S where
 |asg (i:Nat) (e:E)|unp (l:List Nat) (e:E)|par (i j:Nat) (a b:E)
 |ret (e:E)|retV (i:Nat)|iff (c:E) (a b:Ss)|whl (c:E) (b:Ss)|frr (t:Tg) (it:It') (b:Ss)|tryC (f g:Nat) (l:Es) (i j:Nat)|app (i:Nat) (e:E)|pop (i:Nat)|clr (i:Nat)|seti (i:Nat) (k e:E)|never
inductive Ss where
 |nil|cons (s:S) (l:Ss)
end
def Bk(a b:Int):Bool:=decide (a.natAbs<2^16000) && decide (b.natAbs<2^16000)
def br(b:Int):Bool:=decide (b≠0) && decide (b.natAbs<2^9000)
def cf(a b:Int):Bool:=decide (0<=b) && decide (b<=1000) && decide (a.natAbs<2^64)
def addW:D->D->Option W
 |.int a,.int b=>some (.val (.int (a+b)))
 |.lst a,.lst b=>if a.length+b.length<=sizeLine then some (.new (a++b)) else none
 |_,_=>none
def arW(f:Int->Int->Option W):D->D->Option W
 |.int a,.int b=>f a b
 |_,_=>none
def Df:Op->D->D->Option W
 |.add,x,y=>addW x y
 |.sub,x,y=>arW (λa b=>some (.val (.int (a-b)))) x y
 |.mul,x,y=>arW (λa b=>if Bk a b=true then some (.val (.int (a*b))) else none) x y
 |.fdiv,x,y=>arW (λa b=>if br b=true then some (.val (.int (a.fdiv b))) else none) x y
 |.mod,x,y=>arW (λa b=>if b=0 then none else some (.val (.int (a.fmod b)))) x y
 |.pow,x,y=>arW (λa b=>if cf a b=true then some (.val (.int (a^b.toNat))) else none) x y
def D3(f:Int->Int->Bool):D->D->Option Bool
 |.int a,.int b=>some (f a b)
 |_,_=>none
noncomputable def eqO:D->D->Option Bool
 |.int a,.int b=>some (decide (a=b))
 |.bl a,.bl b=>some (a == b)
 |.tup a,.tup b=>if (dOkL 49 a && dOkL 49 b)=true then some (eqL a b) else none
 |.lst a,.lst b=>if (dOkL 49 a && dOkL 49 b)=true then some (eqL a b) else none
 |_,_=>none
def inO(x:D):D->Option Bool
 |.lst l=>if (dOk 50 x && dOkL 49 l)=true then some (l.any λy=>eqD y x) else none
 |_=>none
def nonO(x:D):D->Option Bool
 |.non=>some (du x)
 |_=>none
noncomputable def CI:Cm->D->D->Option Bool
 |.lt,x,y=>D3 (λa b=>decide (a<b)) x y
 |.le,x,y=>D3 (λa b=>decide (a<=b)) x y
 |.gt,x,y=>D3 (λa b=>decide (b<a)) x y
 |.ge,x,y=>D3 (λa b=>decide (b<=a)) x y
 |.eq,x,y=>eqO x y
 |.ne,x,y=>(eqO x y).map not
 |.isin,x,y=>inO x y
 |.notin,x,y=>(inO x y).map not
 |.isN,x,y=>nonO x y
 |.notN,x,y=>(nonO x y).map not
def isTy:Ty->D->Bool
 |.int,.int _=>true
 |.int,.bl _=>true
 |.bool,.bl _=>true
 |.tuple,.tup _=>true
 |.list,.lst _=>true
 |_,_=>false
def eY(t:Ty):D->Option Bool
 |.exc _=>none
 |.obj _ _=>none
 |d=>some (isTy t d)
def lenW:∅
 |[.lst l]=>some (.val (.int l.length))
 |[.tup l]=>some (.val (.int l.length))
 |_=>none
def absW:∅
 |[.int i]=>some (.val (.int (if i<0 then -i else i)))
 |_=>none
def minW:∅
 |[.int i,.int j]=>some (.val (.int (if j<i then j else i)))
 |[.lst l]=>(DD l).map W.val
 |_=>none
noncomputable def maxW:∅
 |[.int i,.int j]=>some (.val (.int (if i<j then j else i)))
 |[.lst l]=>((cj l).bind maxI).map λm=>.val (.int m)
 |_=>none
def sumW:∅
 |[.lst l]=>(cj l).map λd=>.val (.int (sumI d))
 |_=>none
def biW:Bi->∅
 |.len,d=>lenW d
 |.abs,d=>absW d
 |.min,d=>minW d
 |.max,d=>maxW d
 |.sum,d=>sumW d
 |.srt,_=>none
def ixD:D->D->Option D
 |.tup l,.int i=>atI l i
 |.lst l,.int i=>atI l i
 |_,_=>none
def Lr:D->Option Int->Option Int->Option W
 |.lst l,i,j=>some (.new (cutD l i j))
 |_,_,_=>none
def bp:D->Option Bool
 |.bl b=>some b
 |_=>none
def CS:D->Option Int
 |.int i=>some i
 |_=>none
def KD(j:Nat):D->Option D
 |.obj _ l=>l[j]?
 |_=>none
def lcpW:D->Option W
 |.lst l=>some (.new l)
 |.tup l=>some (.new l)
 |_=>none
noncomputable def fmW:Fm->∅
 |.tupl,[.lst l]=>some (.val (.tup l))
 |.zip,[.lst a,.lst b]=>if a.length=b.length then some (.new (CN a b)) else none
 |_,_=>none
def Ez(n:Nat):Tg->Bool
 |.name i=>decide (i<n)
 |.tup l=>l.all λi=>decide (i<n)
def Dp(e:CF)(i:Nat)(d:D):Option CF:=if i<e.length then some (e.set i (some d)) else none
def dv:List Nat->List D->CF->Option CF
 |[],[],e=>some e
 |i::f,d::g,e=>(Dp e i d).bind (dv f g)
 |_,_,_=>none
def ck:Tg->D->CF->Option CF
 |.name i,d,e=>Dp e i d
 |.tup f,.tup g,e=>dv f g e
 |_,_,_=>none
def bK(l:List D):List D:=l.zipIdx.map λp=>D.tup [.int (p.2:Int),p.1]
def seqD:D->Option (List D)
 |.lst l=>some l
 |.tup l=>some l
 |_=>none
def Ej:D->Option (List D)
 |.lst l=>some l
 |_=>none
def varD(e:CF)(i:Nat):Option D:=match e[i]? with
 |some (some d)=>some d
 |_=>none
section
variable(Γ:Nat->∅)
mutual
noncomputable def ev:E->CF->Option W
 |.var i,e=>(varD e i).map W.val
 |.int i,_=>some (.val (.int i))
 |.bl b,_=>some (.val (.bl b))
 |.non,_=>some (.val .non)
 |.bin o a b,e=>((ev a e).map W.d).bind λx=>((ev b e).map W.d).bind λy=>Df o x y
 |.neg a,e=>(((ev a e).map W.d).bind CS).map λi=>.val (.int (-i))
 |.cmp c a b,e=>((ev a e).map W.d).bind λx=>((ev b e).map W.d).bind λy=>(CI c x y).map λk=>.val (.bl k)
 |.and a b,e=>(((ev a e).map W.d).bind bp).bind λk=>if k=true then ev b e else some (.val (.bl false))
 |.or a b,e=>(((ev a e).map W.d).bind bp).bind λk=>if k=true then some (.val (.bl true)) else ev b e
 |.not a,e=>(((ev a e).map W.d).bind bp).map λk=>.val (.bl (!k))
 |.ife c a b,e=>(((ev c e).map W.d).bind bp).bind λk=>if k=true then ev a e else ev b e
 |.tup l,e=>(evs l e).bind λg=>if g.length<=sizeLine then some (.val (.tup g)) else none
 |.lst l,e=>(evs l e).bind λg=>if g.length<=sizeLine then some (.new g) else none
 |.ix a b,e=>((ev a e).map W.d).bind λx=>((ev b e).map W.d).bind λy=>(ixD x y).map W.val
 |.sl a lo q,e=>((ev a e).map W.d).bind λx=>(evo lo e).bind λi=>(evo q e).bind λj=>Lr x i j
 |.call f l,e=>(evs l e).bind λg=>Γ f g
 |.bi f l,e=>(evs l e).bind λg=>biW f g
 |.isi a t,e=>((ev a e).map W.d).bind λd=>(eY t d).map λk=>.val (.bl k)
 |.isx a r,e=>((ev a e).map W.d).bind λd=>(isX r d).map λk=>.val (.bl k)
 |.idx a b,e=>((ev a e).map W.d).bind λx=>((ev b e).map W.d).bind λy=>EH x y
 |.fld a j,e=>(((ev a e).map W.d).bind (KD j)).map W.val
 |.fm f l,e=>(evs l e).bind λg=>fmW f g
 |.lcp a,e=>((ev a e).map W.d).bind lcpW
 |.comp n t s p fr c,e=>(evW s e).bind λh=>if h.length<=sizeLine/\Ez p t=true then
   (bG (λd=>(ck t d (blkR p fr e)).bind λm=>(Ec c m).bind λk=>if k=true then((ev n m).map W.d).map some else some none) h).map W.new else none
noncomputable def evs:Es->CF->Option (List D)
 |.nil,_=>some []
 |.cons e l,f=>((ev e f).map W.d).bind λd=>(evs l f).map λg=>d::g
noncomputable def evo:EO->CF->Option (Option Int)
 |.non,_=>some none
 |.som e,f=>(((ev e f).map W.d).bind CS).map some
noncomputable def Ec:EO->CF->Option Bool
 |.non,_=>some true
 |.som e,f=>((ev e f).map W.d).bind bp
noncomputable def evW:It'->CF->Option (List D)
 |.seq e,f=>((ev e f).map W.d).bind seqD
 |.seqV i,f=>(varD f i).bind seqD
 |.range1 a,f=>(((ev a f).map W.d).bind CS).bind λn=>if -(2^62)<=n/\n<2^62 then some (Bv 0 n.toNat) else none
 |.range2 a b,f=>(((ev a f).map W.d).bind CS).bind λm=>(((ev b f).map W.d).bind CS).bind λn=>
   if -(2^62)<=m/\m<2^62 /\ -(2^62)<=n/\n<2^62 then some (Bv m (n-m).toNat) else none
 |.enum e,f=>(((ev e f).map W.d).bind Ej).map bK
 |.rev e,f=>(((ev e f).map W.d).bind Ej).map List.reverse
 |.zip a b,f=>(((ev a f).map W.d).bind sqD).bind λl=>(((ev b f).map W.d).bind sqD).bind λm=>if l.length=m.length then some (CN l m) else none
 |.zipV _ _,_=>none
end
def EI(e:E)(f:CB):Option Bool:=((ev Γ e (view f)).map W.d).bind bp
def C8(d:CB)(i:Nat)(b:B):Option CB:=if i<d.length then some (d.set i (some b)) else none
def eZ:List Nat->List D->CB->Option CB
 |[],[],e=>some e
 |i::f,d::g,e=>(C8 e i (.sh d)).bind (eZ f g)
 |_,_,_=>none
def Bo:Tg->D->CB->Option CB
 |.name i,d,e=>C8 e i (.sh d)
 |.tup f,.tup g,e=>eZ f g e
 |_,_,_=>none
def seqB(d:CB):Option (Option B)->Option (List D×CB)
 |some (~~~.lst l)=>some (l,d)
 |some (~~~.tup l)=>some (l,d)
 |some (some (.ow l))=>some (l,frz d)
 |_=>none
def frA(i:Nat)(e:CB):CB:=match e[i]? with
 |some (some b)=>e.set i (~~~b.d)
 |_=>e
def DV:Option (Option B)->Option D
 |some (some b)=>some b.d
 |_=>none
noncomputable def evI:It'->CB->Option (List D×CB)
 |.seqV i,f=>seqB f f[i]?
 |.seq e,f=>(ev Γ e (view f)).bind λw=>match w.d with
  |.lst l=>some (l,after w f)
  |.tup l=>some (l,after w f)
  |_=>none
 |.range1 a,f=>(((ev Γ a (view f)).map W.d).bind CS).bind λn=>if -(2^62)<=n/\n<2^62 then some (Bv 0 n.toNat,f) else none
 |.range2 a b,f=>(((ev Γ a (view f)).map W.d).bind CS).bind λm=>(((ev Γ b (view f)).map W.d).bind CS).bind λn=>
   if -(2^62)<=m/\m<2^62 /\ -(2^62)<=n/\n<2^62 then some (Bv m (n-m).toNat,f) else none
 |.enum e,f=>(ev Γ e (view f)).bind λw=>match w.d with
  |.lst l=>some (bK l,frz f)
  |_=>none
 |.rev _,_=>none
 |.zip a b,f=>(((ev Γ a (view f)).map W.d).bind sqD).bind λl=>(((ev Γ b (view f)).map W.d).bind sqD).bind λm=>if l.length=m.length then some (CN l m,frz f) else none
 |.zipV i j,f=>((DV f[i]?).bind sqD).bind λl=>((DV f[j]?).bind sqD).bind λm=>if l.length=m.length then some (CN l m,frA i (frA j f)) else none
open Classical in
def e7(c:CB->Option Bool)(b:CB->Option Out)(d:CB):Option Out:=
 if h:∃n o,bE c b n d=some o then bE c b h.choose d else none
theorem kG{c:CB->Option Bool}{b:CB->Option Out}:∀{n m:Nat}{d:CB}{o:Out},bE c b n d=some o->n<=m->bE c b m d=some o
 |0,_,_,_,h,_=>by cases h
 |n+1,0,_,_,_,h=>by omega
 |n+1,m+1,d,o,h,i=>by
  unfold bE at h |-;cases e:c d with
  |none=>rw[e] at h;cases h
  |some k=>
   simp only[e] at h |-;cases k with
   |false=>exact h
   |true=>
    cases f:b d with
    |none=>simp only[f] at h;cases h
    |some o2=>
     simp only[f] at h |-;cases o2 with
     |rt w=>exact h
     |nx g=>exact kG h vB
def kH{c:CB->Option Bool}{b:CB->Option Out}{n:Nat}{e:CB}{o:Out}(h:bE c b n e=some o):e7 c b e=some o:=by
 have d:∃n o,bE c b n e=some o:=⟨n,o,h⟩;unfold e7;rw[dif_pos d];obtain⟨g,f⟩:=d.choose_spec
 rw[f];have a:=kG h (Nat.le_max_left n d.choose);have b:=kG f (Nat.le_max_right n d.choose);rw[a] at b;exact b.symm
def nV{c:CB->Option Bool}{b:CB->Option Out}{d:CB}{o:Out}(h:e7 c b d=some o):∃n,bE c b n d=some o:=by
 unfold e7 at h;by_cases e:∃n o,bE c b n d=some o
 ·rw[dif_pos e] at h;exact⟨_,h⟩
 ·rw[dif_neg e] at h;cases h
mutual
def ex:S->CB->Option Out
 |.asg i e,h=>(ev Γ e (view h)).bind λw=>(C8 (after w h) i w.b).map Out.nx
 |.unp o e,h=>(ev Γ e (view h)).bind λw=>(Bo (.tup o) w.d (after w h)).map Out.nx
 |.par i j a b,h=>((ev Γ a (view h)).map W.d).bind λx=>((ev Γ b (view h)).map W.d).bind λy=>
   if lf x=true/\lf y=true/\i≠j/\i<h.length/\j<h.length then some (.nx ((h.set i (~~~x)).set j (~~~y))) else none
 |.ret e,h=>(ev Γ e (view h)).map Out.rt
 |.retV i,h=>match h[i]? with
  |some (some (.ow l))=>some (.rt (.new l))
  |some (~~~d)=>some (.rt (.val d))
  |_=>none
 |.iff c a b,h=>(EI Γ c h).bind λk=>if k=true then exs a h else exs b h
 |.whl c b,h=>e7 (EI Γ c) (exs b) h
 |.frr t q b,h=>(evI Γ q h).bind λp=>forN (Bo t) (exs b) p.1 p.2
 |.tryC f g l i j,h=>(evs Γ l (view h)).bind λm=>match Γ g m with
  |some (.val (.exc z))=>if z∈km/\i≠j/\i<h.length then some (.nx (((frz h).set j none).set i (~~~.exc z))) else none
  |_=>(Γ f m).map λ_=>.nx (frz h)
 |.app i e,h=>(ev Γ e (view h)).bind λw=>match h[i]?,w with
  |some (some (.ow l)),.val d=>if lf d=true/\l.length<sizeLine then some (.nx (h.set i (some (.ow (l++[d]))))) else none
  |_,_=>none
 |.pop i,h=>match h[i]? with
  |some (some (.ow l))=>if l=[] then none else some (.nx (h.set i (some (.ow l.dropLast))))
  |_=>none
 |.clr i,h=>match h[i]? with
  |some (some (.ow _))=>some (.nx (h.set i (some (.ow []))))
  |_=>none
 |.seti i k e,h=>(ev Γ e (view h)).bind λw=>(((ev Γ k (view h)).map W.d).bind CS).bind λj=>match h[i]?,w with
  |some (some (.ow l)),.val d=>if lf d=true then(ixN l.length j).map λn=>.nx (h.set i (some (.ow (l.set n d)))) else none
  |_,_=>none
 |.never,_=>none
def exs:Ss->CB->Option Out
 |.nil,d=>some (.nx d)
 |.cons s l,d=>(ex s d).bind λo=>match o with
  |.nx e=>exs l e
  |.rt w=>some (.rt w)
end
def run(b:Ss)(n:Nat)(e:List D):Option W:=(exs Γ b (e.map (λd=>~~~d)++List.replicate (n-e.length) none)).bind λo=>match o with
 |.rt w=>some w
 |.nx _=>some (.val .non)
end
open PySem L2 PyProof.Rows
section
variable{X:Cx}{e a b c:Expr}{es:List Expr}{ρ:CB}{pos:Pos}
def nW{d:Type}(l:List d)(i:Nat):l.zipIdx[i]? = (l[i]?).map λx=>(x,i):=by simp
def DI.enum{h:List Expr}{t:Nat}{tp p:Pos}{l:List D}(u:Gl X "enumerate")(w:X.mg "enumerate" = none)(A:DA X [a] (view ρ) [.lst l])(B:Bd a=true):
  DI X (.Tuple h t tp) (.Call (.Name "enumerate" p) [a] [] pos) ρ (bK l) (frz ρ):=λC E=>
 PI.mono (nu u w (A C E) (Bj B)) λW H R ⟨F,S,k⟩=>by
  obtain⟨Y,G⟩:=S.borrow
  refine⟨_,G,λZ I J K R2 q=>?_⟩
  obtain⟨L,M⟩:=S.freeze K R2
  obtain⟨v,e,q⟩:=q.one
  obtain⟨a,j,N,m,r⟩:=q.lst
  subst N;refine⟨a,e,⟨j,R2.sub.seq m⟩,k _ I J L M λi H' n=>⟨λd g=>?_,λf=>⟨j,n.seq m,?_⟩⟩⟩
  ·unfold bK at g;rw[Zm,nW] at g;cases o:l[i]? with
   |none=>rw[o] at g;cases g
   |some O=>
    rw[o] at g;cases g;obtain⟨y,s,P⟩:=r.get o
    refine⟨⟨j,y,n.seq m,s⟩,λx Q ⟨p,z,T,ex,U,V⟩=>?_⟩
    have:=V j (n.seq m)
    rw[s] at this;cases this;exact .inr ⟨p,_,[.int (i:Int),O],T,U,ex,rfl,DenL.cons Den.int_mk (DenL.cons P DenL.nil)⟩
  ·unfold bK at f;rw[Zc,W6] at f;rw[r.length];exact f
def Ty.nm:Ty->String
 |.int => "int" | .bool => "bool" | .tuple => "tuple" | .list => "list"
def LB:Ty->Ty->Bool
 |.int,.int=>true
 |.int,.bool=>true
 |.bool,.bool=>true
 |.tuple,.tuple=>true
 |.list,.list=>true
 |_,_=>false
def iJ(K:vE):∀(t:Ty) (u:Ty),PySem.W.kitOne K (.type u.nm) (.type t.nm)=some (LB t u):=by
 intro t u;cases t<;>cases u<;>kernel_rfl
def tW(K:vE):∀(t:Ty),PySem.W.kitOne K (.type "NoneType") (.type t.nm)=some false:=by
 intro t;cases t<;>kernel_rfl
def Hi{f:List (Addr×Obj)}{G:L2.St}{F H:Hp}{s:Shared}{A:Around}{E:Value->Shared->Prop}{Q:Value->Shared->Prop}{d:D}{v:V}{u:Value}{t:Ty}(I:Inv X f G H s)(B:Same F H)(h:Den X.K F d v)(r:RelV v u)(C:eY t d=some (isTy t d))
 (q:∀J,Q (.bool (isTy t d)) {s with toks:=J}):wpAny (model X.prog X.w) A (call (.builtin "isinstance") [u,.type t.nm]) Q E s:=by
 cases d with
 |non=>
  rw[h.non] at r;cases(show u=Value.none from r)
  exact Kt PySem.W.kitx_none I.kIn True.intro (by rw[tW X.K t]) (λz=>nomatch z) (by cases t<;>exact q)
 |bl b=>
  rw[h.bl] at r;cases(show u=Value.bool b from r)
  exact Kt PySem.W.kitx_bool I.kIn True.intro (iJ X.K t .bool) (λz=>nomatch z) (by cases t<;>exact q)
 |int i=>
  rw[h.int] at r;obtain⟨M,e⟩:=(show ∃t,u=Value.int i t from r)
  cases e;exact Kt PySem.W.kitx_int I.kIn True.intro (iJ X.K t .int) (λz=>nomatch z) (by cases t<;>exact q)
 |tup l=>
  obtain⟨a,L,e,g,_⟩:=h.tup
  rw[e] at r;cases(show u=Value.ref a from r)
  obtain⟨j,_,⟨o,m,p,_⟩,_⟩:=I.tuple (Same.tup B g)
  exact Kt PySem.W.kitx_tuple I.kIn ⟨o,m,p⟩ (iJ X.K t .tuple) (λz=>nomatch z) (by cases t<;>exact q)
 |lst l=>
  obtain⟨a,L,e,g,_⟩:=h.lst
  rw[e] at r;cases(show u=Value.ref a from r)
  obtain⟨j,_,⟨o,n,m,p,_⟩,_⟩:=I.list (B.seq g)
  exact Kt PySem.W.kitx_list I.kIn ⟨o,m,p⟩ (iJ X.K t .list) (λz=>nomatch z) (by cases t<;>exact q)
 |exc x=>cases C
 |obj a l=>cases C
def tX:bootBuiltins "isinstance" = some (.builtin "isinstance"):=by decide +kernel
def tY(t:Ty):bootBuiltins (Str.ofString t.nm)=some (.type t.nm):=by cases t<;>decide +kernel
def tZ(t:Ty)(d:D)(f:eY t d=some (isTy t d)):cb X (.builtin "isinstance") (λg H Q=>∃F v,g=[v,.ty t.nm]/\Same F H/\Den X.K F d v/\Q (.bl (isTy t d)) H):=by
 intro pins s o H p w Q I r ⟨F,v,e,i,h,q⟩;subst e;obtain⟨u,j,e,l,m⟩:=iu r
 subst e;cases(show j=Value.type t.nm from m)
 exact Hi I i h l f λn=>⟨.bl _,H,I.tok n,rfl,q⟩
def DE.isi{t:Ty}{d:D}{x:Str}{p g:Pos}{ρ:CF}(l:eY t d=some (isTy t d))(m:DF X a ρ d)(h:Bd a=true)(n:Gl X "isinstance")(o:X.mg "isinstance" = none)(q:x=Str.ofString t.nm)(e:Gl X x)(f:X.mg x=none):
  DE X (.Call (.Name "isinstance" p) [a,.Name x g] [] pos) ρ (.val (.bl (isTy t d))):=λr s=>by
 subst q;have u:PE X (.Name (Str.ofString t.nm) g) (tC (.ty t.nm)):=qL e f (tY t) rfl (by cases t<;>decide) (by cases t<;>decide);refine PE.mono (mX (tZ t d l) n o tX (cc (m r s) (cc u cJ) (Bj h)) vA vA (Bj h) rfl) λB H Q ⟨F,R,k⟩=>?_;exact⟨F,R,λv w i z j A=>⟨i,v,rfl,j.sub,A,k _ w i z j RW.bl⟩⟩
end
open PySem L2 PyProof.Rows
section
variable{X:Cx}{e a b c t tg:Expr}{es ts:List Expr}{ρ ρ' ρ2:CF}{pos:Pos}{d:D}{ds:List D}{w:W}
def t6{K:vE}{F:Hp}{a:Addr}{e:List V}{l:List D}(f:SqL K F a e)(r:DenL K F l e):Walks K F (Mm K a) l:=λi s g=>⟨λd m=>by
 obtain⟨y,j,n⟩:=r.get m
 refine⟨⟨e,y,g.seq f,j⟩,λx o ⟨p,q⟩=>?_⟩
 have:=q e (g.seq f)
 rw[j] at this;cases this;exact .inl ⟨p,n⟩,λh=>⟨e,g.seq f,by rw[r.length];exact h⟩⟩
def t7{K:vE}{F:Hp}{a:Addr}{e:List V}{l:List D}(f:SqT K F a e)(r:DenL K F l e):Walks K F (Ml K a) l:=λi s g=>⟨λd m=>by
 obtain⟨y,j,n⟩:=r.get m
 refine⟨⟨e,y,Same.tup g f,j⟩,λx o ⟨p,q⟩=>?_⟩
 have:=q e (Same.tup g f)
 rw[j] at this;cases this;exact .inl ⟨p,n⟩,λh=>⟨e,Same.tup g f,by rw[r.length];exact h⟩⟩
def t8{K:vE}{F:Hp}{a:Addr}{g:List V}{l:List D}(h:SqL K F a g)(r:DenL K F l g):Walks K F (Mn K a) (bK l):=λi w j=>⟨λd f=>by
 unfold bK at f;rw[Zm,nW] at f;cases m:l[i]? with
 |none=>rw[m] at f;cases f
 |some o=>
  rw[m] at f;cases f;obtain⟨y,n,q⟩:=r.get m
  refine⟨⟨g,y,j.seq h,n⟩,λx s ⟨p,z,t,ex,u,v⟩=>?_⟩
  have:=v g (j.seq h)
  rw[n] at this;cases this;exact .inr ⟨p,_,[.int (i:Int),o],t,u,ex,rfl,DenL.cons Den.int_mk (DenL.cons q DenL.nil)⟩,λe=>⟨g,j.seq h,by
 unfold bK at e;rw[Zc,W6] at e;rw[r.length];exact e⟩⟩
def DIe.list{l:List D}(f:DF X e ρ (.lst l)):DIe X tg e ρ l:=λg h=>PI.mono (kc (f g h)) λs H R ⟨F,i,k⟩=>⟨F,i,λv j m n R2 q=>by
 obtain⟨a,o,p,d,r⟩:=q.lst
 exact⟨a,p,⟨o,R2.sub.seq d⟩,k _ j m n R2 (t6 d r)⟩⟩
theorem DIe.tup{l:List D}(f:DF X e ρ (.tup l)):DIe X tg e ρ l:=λg h=>PI.mono (kd (f g h)) λs H R ⟨F,i,k⟩=>⟨F,i,λv j m n R2 q=>by
 obtain⟨a,o,p,d,r⟩:=q.tup
 exact⟨a,p,⟨o,Same.tup R2.sub d⟩,k _ j m n R2 (t7 d r)⟩⟩
def DIe.range1{p:Pos}{n:Int}(d:Gl X "range")(f:X.mg "range" = none)(g:DA X [a] ρ [.int n])(h:Bd a=true)(i : -(2^62)<=n)(j:n<2^62):DIe X tg (.Call (.Name "range" p) [a] [] pos) ρ (Bv 0 n.toNat):=λl m=>
 PI.mono (kf d f (g l m) (Bj h)) λu H R ⟨F,o,k⟩=>⟨F,o,λw r s t R2 q=>by
  obtain⟨v,e,q⟩:=q.one
  rw[q.int] at e;exact⟨n,e,i,j,k _ r s t R2 nr⟩⟩
def DIe.enum{d:List Expr}{g:Nat}{tp p:Pos}{l:List D}(h:Gl X "enumerate")(i:X.mg "enumerate" = none)(j:DA X [a] ρ [.lst l])(m:Bd a=true):DIe X (.Tuple d g tp) (.Call (.Name "enumerate" p) [a] [] pos) ρ (bK l):=λn o=>
 PI.mono (nu h i (j n o) (Bj m)) λB H R ⟨F,s,k⟩=>⟨F,s,λC t u w R2 q=>by
  obtain⟨v,e,q⟩:=q.one
  obtain⟨a,z,A,f,r⟩:=q.lst
  subst A;exact⟨a,e,⟨z,R2.sub.seq f⟩,k _ t u w R2 (t8 f r)⟩⟩
theorem ER.set{K:vE}{H0 Fc F H:Hp}{σ:L2.St}(R:ER K H0 Fc F H σ ρ){i:Nat}{v:V}(q:Den K F d v)(g:i<ρ.length)(h:i<σ.length):ER K H0 Fc F H (σ.set i (some v)) (ρ.set i (some d)):=
 ⟨R.sub,R.same,R.base,R.new,λj l e=>by
  by_cases f:j=i
  ·subst f;rw[Ya g] at e;cases e;exact⟨v,Ya h,q⟩
  ·rw[Z7 (Wz f)] at e |-;exact R.env j l e⟩
def DGe.name{i:Nat}{x:Str}(g:X.N.Nodup)(e:X.N[i]? = some x)(f:X.env.scope.names.lookup x=some .local)(h:i<ρ.length):DGe X (.Name x pos) d ρ (ρ.set i (some d)):=λj l=>
 PG.mono (fR g e (.inl f) (.inr f)) λv m H Q ⟨hlen,F,R,q,k⟩=>k _ (by rw[Wq];exact hlen) (R.set q h (by rw[hlen];exact(Zi.mp e).1))
def DGse(X:Cx)(tg:List Expr)(ds:List D)(ρ ρ':CF):Prop:=∀e f,PGs X tg (λh g H Q=>g.length=X.N.length/\∃F,ER X.K e f F H g ρ/\DenL X.K F ds h/\∀d,d.length=X.N.length->ER X.K e f F H d ρ'->Q d H)
def DGse.nil:DGse X [] [] ρ ρ:=λf g=>PGs.mono ka λh d H Q ⟨e,F,S,q,k⟩=>⟨q.inv_nil,k d e S⟩
def DGse.cons(i:DGe X t d ρ ρ')(j:DGse X ts ds ρ' ρ2)(l:Bd t=true):DGse X (t::ts) (d::ds) ρ ρ2:=λg h=>
 PGs.mono (ij (i g h) (j g h) (by rw[iC l];rfl)) λu w H Q ⟨m,F,S,q,k⟩=>by
  obtain⟨v,r,e,n,o⟩:=q.inv_cons
  exact⟨v,r,e,m,F,S,n,λp f s=>⟨f,F,s,o,k⟩⟩
theorem DGe.tup{k}(g:X.calm=true)(h:DGse X ts ds ρ ρ')(f:ts.all Bd=true)(i:ds.length=ts.length):DGe X (.Tuple ts k pos) (.tup ds) ρ ρ':=λj l=>
 PG.mono (kb (n:=ts.length) g (h j l) (fW f).1 (fW f).2) λv p H Q ⟨d,F,S,q,k⟩=>by
  obtain⟨a,m,e,o,r⟩:=q.tup
  exact⟨a,m,e,Same.tup S.sub o,by rw[r.length];exact i,d,F,S,r,k⟩
structure CompOk(X:Cx)(scope:Scope)(ts frees:List Str)(fr:List Nat):Prop where
 kind:scope.kind=.function
 cell:∀y∈scope.names,y.2 ≠ .cell
 names:∀y∈scope.names,y.2=.local->scope.names.lookup y.1=some .local
 all:∀y∈scope.names,y.2=.free->X.env.kindOf y.1=some .cell
 free:∀(m:Nat) (x:Str),frees[m]? = some x->scope.names.lookup x=some .free/\X.env.kindOf x=some .cell/\∃j:Nat,fr[m]? = some j/\X.N[j]? = some x
 len:fr.length=frees.length
def iK(X:Cx)(scope:Scope)(N':List Str)(f:Cx):Prop:=∃g C d e ex,f=De X scope g C N' d e ex
def iL{e:List (Addr×Obj)}{s:Shared}{f:L2.St}{H:Hp}{scope:Scope}{ts d:List Str}{fr:List Nat}(I:Inv X e f H s)(g:CompOk X scope ts d fr):∀y∈scope.names,y.2=.free->∃c,X.env.cells.lookup y.1=some c:=
 λy h i=>I.ok.has y.1 (.inl (g.all y h i))
def DE.comp{z l:Expr}{r:List Expr}{scope:Scope}{ts h:List Str}{fr:List Nat}{g res:List D}{f:D->Option (Option D)}(t:X.calm=true)(q:CompOk X scope ts h fr)(hi:DIe X tg l ρ g)(hs:∀x,foldedSetIterable l X.env x=pure x)
 (N:g.length<=sizeLine)(A:bG f g=some res)
 (B:∀(E:Cx),iK X scope (ts++h) E->∀(d:D) (o:Option D),d∈g->f d=some o->∃p,DGe E tg d (blkR ts.length fr ρ) p/\(∀(i:Nat) d,(blkR ts.length fr ρ)[i]? = some (some d)->p[i]? = some (some d)) /\
   (match o with|none=>D0 E r p false|some e=>D0 E r p true/\DF E z p e)):
  DE X (.ListComp z [⟨tg,l,r,0⟩] scope pos) ρ (.new res):=by
 intro H0 Fc pins s O H Q I ⟨F,R,k⟩;rw[eval_ListComp];refine V5 (use:=none) rfl hs (nz (iL I q)) q.kind q.names (CH (hi H0 Fc pins s O H (λJ G=>∃u,Same F u/\ER X.K H0 Fc u G O ρ/\Walks X.K u J g) I ⟨F,R,λJ G u s' P S=>⟨u,s',P,S⟩⟩) λv s1 h1=>CH h1 λa9 s2 h2=>?_);obtain⟨it,fp,tn,J,H1,w,I2,T,U,V,F1,W,R1,S⟩:=h2
 subst w;refine nC (K:=X.K) rfl (σ':=blkR ts.length fr O) (ρ0:=blkR ts.length fr ρ) (N':=ts++h) I2 t T U V q.kind q.cell (iL I q) R1 ?_ ?_ ?_ S N A (λC L M d o hd ho=>B _ ⟨_,C,L,M,fp,rfl⟩ d o hd ho) ?_
 ·rw[nE,Z8,q.len]
 ·intro i d e;obtain⟨m,j,w,Y,Z⟩:=eV e
  obtain⟨v,g1,g2⟩:=R1.env j d Z
  subst w;exact⟨v,nD Y g1,g2⟩
 ·intro i x v w Y;obtain⟨m,j,Z,e4,e5⟩:=eV Y
  subst Z;rw[Ye vB,show ts.length+m-ts.length=m by omega] at w;obtain⟨g1,g2,j',g3,g4⟩:=q.free m x w
  rw[e4] at g3;cases g3;exact⟨g1,g2,j,g4,e5⟩
 ·intro D C s5 G u ys m I5 a0 a1 a2 a3 a4 a5 a6 P a7 a8 hD dn;refine⟨m,a0,λh' sb=>⟨.ref D,G,I5.turned (t':=s5.toks) (λb o hb e=>sb.extBut b o hb e) a1 a2 (.inr a3) a4 a5,rfl,k _ G u (W.trans a6) P (RW.n a7 a8 hD dn)⟩⟩
def DS.asgComp{i:Nat}{x:Str}{px B:Pos}{t h:Expr}{p:List Expr}{scope:Scope}{ts l:List Str}{fr:List Nat}{g res:List D}{f:D->Option (Option D)}{ρ:CB}(hN:X.N.Nodup)(a3:X.N[i]? = some x)(hx:Loc X.env.scope x)(hf:X.fn x=true\/X.env.scope.names.lookup x=some .local)(hl:i<ρ.length)
 (a4:swapsWith (.ListComp t [⟨tg,h,p,0⟩] scope pos) (some (.Name x px)) B.line X.env=pure true)
 (G:X.calm=true)(E:CompOk X scope ts l fr)(hi:DIe X tg h (view ρ) g)(hs:∀x,foldedSetIterable h X.env x=pure x)
 (a5:g.length<=sizeLine)(P:bG f g=some res)
 (U:∀(V:Cx),iK X scope (ts++l) V->∀(d:D) (o:Option D),d∈g->f d=some o->∃r,DGe V tg d (blkR ts.length fr (view ρ)) r/\(∀(i:Nat) d,(blkR ts.length fr (view ρ))[i]? = some (some d)->r[i]? = some (some d)) /\
   (match o with|none=>D0 V p r false|some e=>D0 V p r true/\DF V t r e)):
  DS X (.Assign [.Name x px] (.ListComp t [⟨tg,h,p,0⟩] scope pos) B) ρ (.nx ((after (.new res) ρ).set i (some (.ow res)))):=by
 intro H0 Fc pins s σ H D I ⟨F,S,k⟩;obtain⟨s0,R⟩:=S.borrow
 rw[exec_Assign_Name_used _ _ _ _ a4];refine Zd (Uy (Zd ?_));show wpAny _ X.A (do let _ <-comprehension (.ListComp t [⟨tg,h,p,0⟩] scope pos) scope X.env _ (newList []) false (eval h X.env) (some (assign (.Name x px) X.env))) _ _ s;refine Zd (U8 (V5 (use:=some (assign (.Name x px) X.env)) (Q:=λ_ s'=>SP X pins D .next s') rfl hs (nz (iL I E)) E.kind E.names (CH (hi H0 Fc pins s σ H (λJ M=>∃L,Same (DL.borrow F H σ ρ) L/\ER X.K H0 Fc L M σ (view ρ)/\Walks X.K L J g) I ⟨_,R,λJ M L s' R' wk=>⟨L,s',R',wk⟩⟩) λv s1 h1=>CH h1 λaj s2 h2=>?_)) (λ_ s' hq=>Zu (Zu hq)) λ_ _ e=>e);obtain⟨it,fp,tn,J,H1,O,I2,T,a7,a8,F1,W,R1,wk⟩:=h2
 subst O;refine nC (K:=X.K) rfl (σ':=blkR ts.length fr σ) (ρ0:=blkR ts.length fr (view ρ)) (N':=ts++l) I2 G T a7 a8 E.kind E.cell (iL I E) R1 ?_ ?_ ?_ wk a5 P (λC Y Z d o hd ho=>U _ ⟨_,C,Y,Z,fp,rfl⟩ d o hd ho) ?_
 ·rw[nE,Z8,E.len]
 ·intro i d e;obtain⟨m,j,O,e2,e3⟩:=eV e
  obtain⟨v,g1,g2⟩:=R1.env j d e3
  subst O;exact⟨v,nD e2 g1,g2⟩
 ·intro i x v O e2;obtain⟨m,j,e3,e4,e5⟩:=eV e2
  subst e3;rw[Ye vB,show ts.length+m-ts.length=m by omega] at O;obtain⟨g1,g2,j',g3,g4⟩:=E.free m x O
  rw[e4] at g3;cases g3;exact⟨g1,g2,j,g4,e5⟩
 ·intro Da C s5 M L ys m I5 a9 aa a0 ab a1 ae a2 R' af ag hD dn;have q:RW X.K H0 L M (.new res) (.ref Da):=RW.n af ag hD dn;obtain⟨F3,s3,S3,q3⟩:=S.after (W.trans a2) R' q
  refine wpAny_assign_Name (mE I5 hN a3 hx (v:=.ref Da) (u:=.ref Da) rfl (λs6 I6 ⟨a6,ah,ai⟩=>⟨m,?_,λh' sb=>?_⟩) hf)
  ·refine a9.sameBut ah (λz=>?_);rcases ai with w|w
   ·exact a0 (z.trans w)
   ·exact a1 x a6 w z.symm
  ·refine⟨_,M,I6.turned (t':=s6.toks) (λb o hb e=>sb.extBut b o hb e) aa a0 (.inr ab) a1 ae,k _ M F3 s3 (S3.bind q3 ?_ (Owned.not_after S (W.trans a2) q))⟩
   rw[<-S3.len,S.len];exact hl
end
open PySem L2 PyProof.Rows
structure TC where
 N:List Str
 sc:Scope
 fns:List (Str×Nat×Nat)
 rzs:List (Str×Nat×Nat)
 xs:Bool
def ixOf(x:Str):List Str->Option Nat
 |[]=>none
 |y::l=>if x=y then some 0 else(ixOf x l).map (· + 1)
theorem e8{x:Str}:∀{l:List Str}{i:Nat},ixOf x l=some i->l[i]? = some x
 |[],_,h=>by cases h
 |y::l,i,h=>by
  unfold ixOf at h;by_cases e:x=y
  ·rw[if_pos e] at h;cases h;simp[e]
  ·rw[if_neg e] at h;obtain⟨j,d,f⟩:=Zb.mp h
   subst f;simpa using e8 d
noncomputable def slot(c:TC)(x:Str):Option Nat:=
 if (x == ("__debug__" : Str))=true\/(x == ("__classdict__" : Str))=true then none else match c.sc.names.lookup x with
  |some .local=>ixOf x c.N
  |some .cell=>ixOf x c.N
  |_=>none
def CO(c:TC)(x:Str):Bool:=!(x == ("__debug__" : Str)) && decide (c.sc.names.lookup x=some .globalImplicit)
def Iu:Operator->Option Op
 |.Add=>some .add
 |.Sub=>some .sub
 |.Mult=>some .mul
 |.FloorDiv=>some .fdiv
 |.Mod=>some .mod
 |.Pow=>some .pow
 |_=>none
def Iy:CmpOp->Option Cm
 |.Lt=>some .lt
 |.LtE=>some .le
 |.Gt=>some .gt
 |.GtE=>some .ge
 |.Eq=>some .eq
 |.NotEq=>some .ne
 |.Is=>some .isN
 |.IsNot=>some .notN
 |.In=>some .isin
 |.NotIn=>some .notin
def FF(x:Str):Option Ty:=
 if x=Str.ofString Ty.int.nm then some .int else if x=Str.ofString Ty.bool.nm then some .bool else if x=Str.ofString Ty.tuple.nm then some .tuple else if x=Str.ofString Ty.list.nm then some .list else none
def Bi.nm:Bi->String
 |.len => "len" | .abs => "abs" | .min => "min" | .max => "max" | .sum => "sum" | .srt => "sorted"
noncomputable def FI(x:Str):Option Bi:=if x=Str.ofString Bi.len.nm then some .len else if x=Str.ofString Bi.abs.nm then some .abs else if x=Str.ofString Bi.min.nm then some .min else if x=Str.ofString Bi.max.nm then some .max else if x=Str.ofString Bi.sum.nm then some .sum else if x=Str.ofString Bi.srt.nm then some .srt else none
inductive Hd where
 |fn (f n:Nat)|bi (b:Bi)|isi|lst|no
noncomputable def cV(c:TC)(x:Str):Hd:=
 if CO c x=true then match c.fns.lookup x with
  |some (f,n)=>.fn f n
  |none=>match FI x with
   |some b=>.bi b
   |none=>if x=("isinstance" : Str) then .isi else if x=("list" : Str) then .lst else .no
 else .no
def locs(sc:Scope):List Str:=sc.names.filterMap λy=>if y.2=NameKind.local then some y.1 else none
def frs'(sc:Scope):List Str:=sc.names.filterMap λy=>if y.2=NameKind.free then some y.1 else none
def IQ(scope sc:Scope):Scope:={scope with names:=scope.names.map λ(n,k)=>if (k == NameKind.free && sc.kind == .function && sc.names.lookup n == some .cell)=true then(n,NameKind.cell) else(n,k)}
def DJ(N:List Str):List Str->Option (List Nat)
 |[]=>some []
 |x::l=>(ixOf x N).bind λi=>(DJ N l).map λr=>i::r
noncomputable def fc(c:TC)(scope:Scope):Bool:=
 decide (scope.kind=.function) && scope.names.all (λy=>decide (y.2 ≠ .cell)) && scope.names.all (λy=>decide (y.2=.local->scope.names.lookup y.1=some .local)) &&
 scope.names.all (λy=>decide (y.2=.free->c.sc.names.lookup y.1=some .cell/\scope.names.lookup y.1=some .free)) && decide ((locs scope++frs' scope).Nodup) && decide (c.sc.kind=.function)
def fZ:Expr->Bool
 |.Tuple _ _ _=>true
 |_=>false
def fe:Expr->Bool
 |.Set _ _ _=>true
 |_=>false
def Eb(c:TC)(x:Str)(y:String):Bool:=CO c x && (c.fns.lookup x).isNone && decide (x=Str.ofString y)
noncomputable def fmN(c:TC)(x:Str):List Expr->Option (Fm×List Expr)
 |[.Call (.Name y _) (a::d) [] _]=>if Eb c x "list" = true/\Eb c y "zip" = true then some (.zip,a::d) else none
 |_=>none
def fmT(c:TC)(x:Str):List Expr->Option (Fm×List Expr)
 |[a]=>if Eb c x "tuple" = true then some (.tupl,[a]) else none
 |_=>none
def fmOf(c:TC)(x:Str)(d:List Expr):Option (Fm×List Expr):=match fmN c x d with
 |some r=>some r
 |none=>fmT c x d
noncomputable def trI1(d:Expr->Option E)(c:TC)(f:Expr):Expr->Option It'
 |.Call (.Name x p) [a] [] q=>if Eb c x "range" = true/\Bd a=true then(d a).map It'.range1 else if Eb c x "enumerate" = true/\Bd a=true/\fZ f=true then(d a).map It'.enum else if Eb c x "reversed" = true/\Bd a=true then(d a).map It'.rev else(d (.Call (.Name x p) [a] [] q)).map It'.seq
 |.Call (.Name x p) [a,b] [] q=>if Eb c x "zip" = true/\Bd a=true/\Bd b=true/\fZ f=true then(d a).bind λg=>(d b).map λh=>It'.zip g h else(d (.Call (.Name x p) [a,b] [] q)).map It'.seq
 |.Name x _=>(slot c x).map It'.seqV
 |e=>if fe e=false then(d e).map It'.seq else none
def iM(c:TC)(x:Str):Option Nat:=if c.sc.names.lookup x=some .local then ixOf x c.N else none
def f9(c:TC):List Expr->Option (List Nat)
 |[]=>some []
 |.Name x _::d=>(iM c x).bind λi=>(f9 c d).map λl=>i::l
 |_=>none
def iN(c:TC):Expr->Option Tg
 |.Name x _=>(iM c x).map Tg.name
 |.Tuple d _ _=>(f9 c d).map Tg.tup
 |_=>none
def DP(c:TC)(scope:Scope):TC:=⟨locs scope++frs' scope,IQ scope c.sc,c.fns,c.rzs,c.xs⟩
def nX:Expr->Bool
 |.Name _ _=>true
 |.Constant _ _ _=>true
 |.Call _ _ _ _=>true
 |.Subscript _ _ _=>true
 |_=>false
def kI(d:Expr->Option E)(p:Pos):List Expr->Option E
 |[a]=>d a
 |a::b::e=>(d a).bind λf=>(d (.BoolOp .And (b::e) p)).map λg=>.and f g
 |[]=>none
def FG(d:Expr->Option E)(p:Pos):List Expr->Option E
 |[a]=>d a
 |a::b::e=>(d a).bind λf=>(d (.BoolOp .Or (b::e) p)).map λg=>.or f g
 |[]=>none
def trB(d:Expr->Option E)(p:Pos)(e:List Expr):BoolOp->Option E
 |.And=>kI d p e
 |.Or=>FG d p e
def trCp(d:Expr->Option E)(a:Expr):List CmpOp->List Expr->Option E
 |[e],[b]=>if behindInMarks e b=false then(Iy e).bind λo=>(d a).bind λf=>(d b).map λg=>.cmp o f g else none
 |_,_=>none
def trN(d:Expr->Option E)(a:Expr):UnaryOp->Option E
 |.Not=>(d a).map E.not
 |_=>none
def trT1(f:Expr->Option E)(g:Expr->Option E):Expr->Option E
 |.UnaryOp o a _=>trN g a o
 |.BoolOp o h p=>trB g p h o
 |.Compare a d i _=>trCp f a d i
 |e=>if nX e=true then f e else none
def gb(d:Expr->Option E):List Expr->Option EO
 |[]=>some .non
 |[c]=>(d c).map EO.som
 |_=>none
def trK:Const->Option E
 |.int i=>some (.int i)
 |.bool b=>some (.bl b)
 |.none=>some .non
 |_=>none
def trU(d:Expr->Option E)(a:Expr):UnaryOp->Option E
 |.USub=>(d a).map E.neg
 |.Not=>(d a).map E.not
 |_=>none
noncomputable def trLC(h:TC->Expr->Option E)(i:TC->Expr->Option E)(j:Expr->Option E)(c:TC)(d:Expr)(scope:Scope):List Comprehension->Option E
 |[⟨g,iter,f,0⟩]=>if fc c scope=true then(trI1 j c g iter).bind λl=>(iN (DP c scope) g).bind λt=>(DJ c.N (frs' scope)).bind λfr=>
   (h (DP c scope) d).bind λe=>(gb (i (DP c scope)) f).map λk=>.comp e t l (locs scope).length fr k else none
 |_=>none
def trSb(d:Expr->Option E)(f:Option Expr->Option EO)(a:Expr):Expr->Option E
 |.Slice lo g none _=>(d a).bind λe=>(f lo).bind λl=>(f g).map λh=>.sl e l h
 |b=>if eT b=true then(d a).bind λe=>(d b).map λi=>.ix e i else none
def Iw(d:Expr->Option E)(c:TC)(f:Str)(o:Expr):Option E:=
 if c.xs=true/\kD o=true then(ixOf f flds).bind λj=>(d o).map λa=>.fld a j else none
noncomputable def Iv(d:Expr->Option E)(c:TC)(f:Str)(x:Str)(g h:Pos)(e:Expr):Option E:=
 if f=("index" : Str)/\Bd e=true/\(g.endLine == h.line)=true then(slot c x).bind λi=>(d e).map λb=>.idx (.var i) b else none
noncomputable def trE1(q:TC->Expr->Option E)(n:TC->Expr->Option E)(d:Expr->Option E)(h:List Expr->Option Es)(r:Option Expr->Option EO)(c:TC):Expr->Option E
 |.Name x _=>(slot c x).map E.var
 |.Constant k _ _=>trK k
 |.BinOp a s b _=>(Iu s).bind λo=>(d a).bind λi=>(d b).map λj=>.bin o i j
 |.UnaryOp o a _=>trU d a o
 |.BoolOp o g p=>trB d p g o
 |.Compare a l u _=>trCp d a l u
 |.Tuple g _ _=>(h g).map E.tup
 |.List g _=>(h g).map E.lst
 |.ListComp m v scope _=>trLC q n d c m scope v
 |.Subscript a b _=>trSb d r a b
 |.IfExp t a b _=>(n c t).bind λw=>(d a).bind λi=>(d b).map λj=>.ife w i j
 |.Attribute o f _=>Iw d c f o
 |.Call (.Attribute (.Name x _) z A) [e] [] B=>Iv d c z x A B e
 |.Call (.Name x _) (e::g) [] _=>match fmOf c x (e::g) with
  |some (f,C)=>(h C).map (E.fm f)
  |none=>match cV c x with
  |.fn f k=>if (e::g).length=k then(h (e::g)).map (E.call f) else none
  |.bi b=>(h (e::g)).map (E.bi b)
  |.isi=>match g with
   |[.Name y _]=>if CO c y=true/\Bd e=true then(match FF y with
     |some t=>(d e).map λD=>.isi D t
     |none=>none) else none
   |_=>none
  |.lst=>match g with
   |[]=>if Bd e=true then(d e).map E.lcp else none
   |_=>none
  |.no=>none
 |_=>none
mutual
def trE:Nat->TC->Expr->Option E
 |0,_,_=>none
 |n+1,c,e=>trE1 (trE n) (Dn n) (trE n c) (trEs n c) (trO n c) c e
def trEs:Nat->TC->List Expr->Option Es
 |0,_,_=>none
 |n+1,c,[]=>some .nil
 |n+1,c,e::d=>if Bd e=true then(trE n c e).bind λf=>(trEs n c d).map λl=>.cons f l else none
def trO:Nat->TC->Option Expr->Option EO
 |0,_,_=>none
 |n+1,c,none=>some .non
 |n+1,c,some e=>(trE n c e).map EO.som
def Dn:Nat->TC->Expr->Option E
 |0,_,_=>none
 |n+1,c,e=>trT1 (trE n c) (Dn n c) e
end
def t9{e:Expr}{env:Env}(h:nX e=true):∀d,isTrue e env d=(do let v <-d;standAt e.pos;holding [v] (truthy v)):=λd=>by
 cases e<;>first|rfl|(cases h;done)
abbrev dw:List Str:=[Str.ofString "len",Str.ofString "abs",Str.ofString "isinstance",Str.ofString "int",Str.ofString "bool",Str.ofString "tuple",Str.ofString "list",Str.ofString "range",Str.ofString "enumerate",Str.ofString "min",Str.ofString "max",Str.ofString "sorted",Str.ofString "set",Str.ofString "reversed",Str.ofString "zip",Str.ofString "sum"]
structure XE(X:Cx)(c:TC)(Γ:Nat->∅):Prop where
 hN:X.N=c.N
 hsc:X.env.scope=c.sc
 nd:c.N.Nodup
 calm:X.calm=true
 kind:X.env.scope.kind=.function
 calls:∀x f n,c.fns.lookup x=some (f,n)->nj X x n (Γ f)
 xf:c.xs=true->BFacts X.K
 un:X.A.units+64<cLine
 blt:∀x∈dw,X.mg x=none
structure XC(X:Cx)(c:TC)(Γ:Nat->∅):Prop extends XE X c Γ where
 fn:∀x,X.fn x=true
 po:PassesOwn (model X.prog X.w) X.A X.env X.xe
 rz:∀x f n,c.rzs.lookup x=some (f,n)->sv X x n (Γ f)
 st:X.stack=X.env::X.outer
 fr:X.env.frame=some X.env.locals
 nx:X.nox=X
section
variable{X:Cx}{c:TC}{Γ:Nat->∅}
def bH(d:XE X c Γ){x:Str}{i:Nat}(h:slot c x=some i):X.N[i]? = some x/\Loc X.env.scope x/\(x == ("__debug__" : Str))=false/\(x == ("__classdict__" : Str))=false:=by
 unfold slot at h;by_cases z:(x == ("__debug__" : Str))=true\/(x == ("__classdict__" : Str))=true
 ·rw[if_pos z] at h;cases h
 ·rw[if_neg z] at h;have f:(x == ("__debug__" : Str))=false:=by
   cases q:(x == ("__debug__" : Str)) with
   |false=>rfl
   |true=>exact absurd (.inl q) z
  have g:(x == ("__classdict__" : Str))=false:=by
   cases q:(x == ("__classdict__" : Str)) with
   |false=>rfl
   |true=>exact absurd (.inr q) z
  split at h
  ·rename_i e;exact⟨by rw[d.hN];exact e8 h,by rw[d.hsc];exact .inl e,f,g⟩
  ·rename_i e;exact⟨by rw[d.hN];exact e8 h,by rw[d.hsc];exact .inr e,f,g⟩
  ·cases h
def Loc.vis{sc:Scope}{x:Str}(h:Loc sc x):DX sc x:=by
 rcases h with h|h
 ·exact .inl h
 ·exact .inr (.inl h)
def cK(d:XE X c Γ){x:Str}(h:CO c x=true):Gl X x/\(x == ("__debug__" : Str))=false:=by
 unfold CO at h;rw[Zl] at h;refine⟨?_,by simpa using h.1⟩
 show X.env.scope.names.lookup x=_;rw[d.hsc];exact of_decide_eq_true h.2
def iP{f:CF}{i:Nat}{d:D}(h:varD f i=some d):f[i]? = some (some d):=by
 unfold varD at h;split at h
 ·rename_i e;cases h;exact e
 ·cases h
def gf{d:D}{i:Int}(h:CS d=some i):d=.int i:=by
 cases d<;>first|(cases h;rfl)|(cases h;done)
def ua{d:D}{i:Bool}(h:bp d=some i):d=.bl i:=by
 cases d<;>first|(cases h;rfl)|(cases h;done)
def dz{o:Option W}{d:D}(h:o.map W.d=some d):∃w,o=some w/\w.d=d:=Zb.mp h
def gh{f:Int->Int->Option W}{x y:D}{w:W}(h:arW f x y=some w):∃a b,x=.int a/\y=.int b/\f a b=some w:=by
 unfold arW at h;split at h
 ·exact⟨_,_,rfl,rfl,h⟩
 ·cases h
def I7{v A:Expr}{t:Operator}{o:Op}{x y:D}{w:W}{u:CF}{pos:Pos}(B:Iu t=some o)(f:DF X v u x)(g:DF X A u y)(h:Df o x y=some w):DE X (.BinOp v t A pos) u w:=by
 have e:∀{a:Int}{n:Nat},a.natAbs<2^n->Builtin.Int.intBits a<=n:=λ{a n} h=>by
  unfold Builtin.Int.intBits;by_cases z:a=0
  ·rw[if_pos (by simpa using z)];exact Y8 _
  ·rw[if_neg (by simpa using z)];have:=(Nat.log2_lt vB).mpr h
   omega
 cases t<;>first|(cases B;done)|skip
 all_goals cases B
 ·change addW x y=some w at h
  unfold addW at h;split at h
  ·cases h;exact DE.opI0 op_add f g λK F=>Den.int_mk
  ·rename_i l m;by_cases q:l.length+m.length<=sizeLine
   ·rw[if_pos q] at h;cases h;exact DE.cat f g q
   ·rw[if_neg q] at h;cases h
  ·cases h
 ·obtain⟨i,j,rfl,rfl,d⟩:=gh h
  clear h;have h:=d;clear d;cases h;exact DE.opI0 op_sub f g λK F=>Den.int_mk
 ·obtain⟨i,j,rfl,rfl,d⟩:=gh h
  clear h;have h:=d;clear d;by_cases q:Bk i j=true
  ·rw[if_pos q] at h;cases h;unfold Bk at q;rw[Zl] at q;have p:=of_decide_eq_true q.1;have s:=of_decide_eq_true q.2;exact DE.opI (C:=IntMulOk) (L2.opI λ_ _ _ _ _ _ _ r q=>mul_int q r) f g (PySem.IntMulOk.of_bits (Y9 (e p) vA) (Y9 (e s) vA)) λK F=>Den.int_mk
  ·rw[if_neg q] at h;cases h
 ·obtain⟨i,j,rfl,rfl,d⟩:=gh h
  clear h;have h:=d;clear d;by_cases q:j=0
  ·rw[if_pos q] at h;cases h
  ·rw[if_neg q] at h;cases h;exact DE.opI qT f g q λK F=>Den.int_mk
 ·obtain⟨i,j,rfl,rfl,d⟩:=gh h
  clear h;have h:=d;clear d;by_cases q:cf i j=true
  ·rw[if_pos q] at h;cases h;unfold cf at q;rw[Zl,Zl] at q;have p:=of_decide_eq_true q.1.1;have s:=of_decide_eq_true q.1.2;have E:=of_decide_eq_true q.2;exact DE.opI op_pow f g ⟨p,by omega,E⟩ λK F=>Den.int_mk
  ·rw[if_neg q] at h;cases h
 ·obtain⟨i,j,rfl,rfl,d⟩:=gh h
  clear h;have h:=d;clear d;by_cases q:br j=true
  ·rw[if_pos q] at h;cases h;unfold br at q;rw[Zl] at q;have p:=of_decide_eq_true q.1;have s:=of_decide_eq_true q.2;refine DE.opI (C:=λi j=>j≠0/\j.natAbs<2^9000) (L2.opI λ_ _ _ _ _ _ _ r q=>floordiv_int r.1 q (.inl (PyProof.noPylong_of_log2 ?_))) f g ⟨p,s⟩ λK F=>Den.int_mk
   refine(Nat.log2_lt ?_).mpr r.2;have:=r.1
   omega
  ·rw[if_neg q] at h;cases h
end
open PySem L2 PyProof.Rows
section
variable{X:Cx}{c:TC}{Γ:Nat->∅}
def cL{a b:Bool}(h:(a && b)=true):a=true/\b=true:=by simpa using h
def iQ{f:Int->Int->Bool}{x y:D}{k:Bool}(h:D3 f x y=some k):∃a b,x=.int a/\y=.int b/\f a b=k:=by
 unfold D3 at h;split at h
 ·cases h;exact⟨_,_,rfl,rfl,rfl⟩
 ·cases h
def Fg{x y:D}{k:Bool}(h:inO x y=some k):∃l,y=.lst l/\dOk 50 x=true/\dOkL 49 l=true/\(l.any λy=>eqD y x)=k:=by
 unfold inO at h;split at h
 ·split at h
  ·rename_i q;cases h;exact⟨_,rfl,(cL q).1,(cL q).2,rfl⟩
  ·cases h
 ·cases h
def nY{x y:D}{k:Bool}(h:nonO x y=some k):y=.non/\du x=k:=by
 unfold nonO at h;split at h
 ·cases h;exact⟨rfl,rfl⟩
 ·cases h
def nZ{x y:D}{k:Bool}(e:X.A.units+64<cLine)(h:eqO x y=some k):bF X .Eq x y k/\bF X .NotEq x y (!k):=by
 have f:∀{l:List D},dOkL 49 l=true->dOk 50 (.lst l)=true:=λq=>by simp only[dOk];exact q
 have g:∀{l:List D},dOkL 49 l=true->dOk 50 (.tup l)=true:=λq=>by simp only[dOk];exact q
 unfold eqO at h;split at h
 ·cases h;exact⟨rZ,r4⟩
 ·cases h;exact⟨r6,r8⟩
 ·split at h
  ·rename_i q;cases h;have z:=nv (X:=X) e (g (cL q).1) (g (cL q).2);have d:=ny (X:=X) e (g (cL q).1) (g (cL q).2);simp only[eqD] at z d;exact⟨z,d⟩
  ·cases h
 ·split at h
  ·rename_i q;cases h;have z:=nv (X:=X) e (f (cL q).1) (f (cL q).2);have d:=ny (X:=X) e (f (cL q).1) (f (cL q).2);simp only[eqD] at z d;exact⟨z,d⟩
  ·cases h
 ·cases h
def n5{g:CmpOp}{o:Cm}{x y:D}{k:Bool}(f:X.A.units+64<cLine)(n:Iy g=some o)(h:CI o x y=some k):bF X g x y k:=by
 cases g<;>first|(cases n;done)|skip
 all_goals cases n
 ·exact(nZ f h).1
 ·obtain⟨j,d,e⟩:=Zb.mp h
  subst e;exact(nZ f d).2
 ·obtain⟨a,b,rfl,rfl,rfl⟩:=iQ h
  exact HK
 ·obtain⟨a,b,rfl,rfl,rfl⟩:=iQ h
  exact HL
 ·obtain⟨a,b,rfl,rfl,rfl⟩:=iQ h
  exact cmp_gt
 ·obtain⟨a,b,rfl,rfl,rfl⟩:=iQ h
  exact HM
 ·obtain⟨rfl,rfl⟩:=nY h
  exact r9
 ·obtain⟨j,d,e⟩:=Zb.mp h
  subst e;obtain⟨rfl,rfl⟩:=nY d
  exact sd
 ·obtain⟨l,rfl,i,m,rfl⟩:=Fg h
  exact sA f i m
 ·obtain⟨j,d,e⟩:=Zb.mp h
  subst e;obtain⟨l,rfl,i,m,rfl⟩:=Fg d
  exact sC f i m
def ub{x:Str}{t:Ty}(h:FF x=some t):x=Str.ofString t.nm:=by
 unfold FF at h;repeat' split at h
 all_goals first|(cases h;assumption)|(cases h;done)
def uc{x:Str}{t:Bi}(h:FI x=some t):x=Str.ofString t.nm:=by
 unfold FI at h;repeat' split at h
 all_goals first|(cases h;assumption)|(cases h;done)
def KY{b:Bi}{d:List D}{w:W}(f:X.calm=true)(i:X.A.units+64<cLine)(h:biW b d=some w):bV X (.builtin b.nm) d w:=by
 cases b
 ·change lenW d=_ at h
  unfold lenW at h;split at h
  ·cases h;exact sf
  ·cases h;exact sg
  ·cases h
 ·change absW d=_ at h
  unfold absW at h;split at h
  ·cases h;exact se
  ·cases h
 ·change minW d=_ at h
  unfold minW at h;split at h
  ·cases h;exact sL f
  ·obtain⟨m,g,e⟩:=Zb.mp h
   subst e;exact tu f i g
  ·cases h
 ·change maxW d=_ at h
  unfold maxW at h;split at h
  ·cases h;exact sM f
  ·obtain⟨m,h,e⟩:=Zb.mp h
   obtain⟨j,g,l⟩:=Za.mp h
   subst e;exact tK f g l
  ·cases h
 ·change sumW d=_ at h
  unfold sumW at h;split at h
  ·obtain⟨j,g,e⟩:=Zb.mp h
   subst e;exact tG f g
  ·cases h
 ·cases h
def ud(b:Bi):bootBuiltins (Str.ofString b.nm)=some (.builtin b.nm):=by cases b<;>decide +kernel
def n6(b:Bi):Str.ofString b.nm ≠ "__name__" /\ Str.ofString b.nm∈dw:=by cases b<;>decide +kernel
def ue(b:Ty):Str.ofString b.nm∈dw:=by cases b<;>decide +kernel
theorem iR:∀{n:Nat}{d:List Expr}{l:Es},trEs n c d=some l->d.all Bd=true
 |0,_,_,h=>by simp only[trEs] at h;cases h
 |n+1,[],_,_=>rfl
 |n+1,e::d,l,h=>by
  simp only[trEs] at h;by_cases q:Bd e=true
  ·rw[if_pos q] at h;obtain⟨f,_,h⟩:=Za.mp h
   obtain⟨g,h,_⟩:=Zb.mp h
   rw[W7,q,iR h];rfl
  ·rw[if_neg q] at h;cases h
def uf:∀{l:Es}{m:CF}{i:List D}{n:Nat}{f:List Expr},trEs n c f=some l->evs Γ l m=some i->i.length=f.length:=by
 intro l m i n;induction n generalizing l i with
 |zero=>intro f h;simp only[trEs] at h;cases h
 |succ n o=>
  intro f h g;cases f with
  |nil=>
   simp only[trEs] at h;cases h;simp only[evs] at g;cases g;rfl
  |cons e f=>
   simp only[trEs] at h;by_cases q:Bd e=true
   ·rw[if_pos q] at h;obtain⟨s,_,h⟩:=Za.mp h
    obtain⟨t,p,z⟩:=Zb.mp h
    subst z;simp only[evs] at g;obtain⟨d,_,g⟩:=Za.mp g
    obtain⟨r,j,z⟩:=Zb.mp g
    subst z;rw[Zw,Zw,o p j]
   ·rw[if_neg q] at h;cases h
def ug{x:Str}(e:XE X c Γ)(d:cV c x=.isi):x=("isinstance" : Str)/\Gl X "isinstance" := by
 unfold cV at d;split at d
 ·rename_i f;split at d
  ·cases d
  ·split at d
   ·cases d
   ·split at d
    ·rename_i ex;subst ex;exact⟨rfl,(cK e f).1⟩
    ·split at d<;>cases d
 ·cases d
def uh{x:Str}(e:XE X c Γ)(d:cV c x=.lst):x=("list" : Str)/\Gl X "list" := by
 unfold cV at d;split at d
 ·rename_i f;split at d
  ·cases d
  ·split at d
   ·cases d
   ·split at d
    ·cases d
    ·split at d
     ·rename_i ex;subst ex;exact⟨rfl,(cK e f).1⟩
     ·cases d
 ·cases d
def ui{x:Str}{f k:Nat}(e:XE X c Γ)(d:cV c x=.fn f k):c.fns.lookup x=some (f,k)/\Gl X x/\(x == ("__debug__" : Str))=false:=by
 unfold cV at d;split at d
 ·rename_i g;split at d
  ·rename_i i j h;cases d;exact⟨h,cK e g⟩
  ·split at d
   ·cases d
   ·split at d
    ·cases d
    ·split at d<;>cases d
 ·cases d
def uj{x:Str}{b:Bi}(e:XE X c Γ)(d:cV c x=.bi b):x=Str.ofString b.nm/\Gl X x/\(x == ("__debug__" : Str))=false:=by
 unfold cV at d;split at d
 ·rename_i f;split at d
  ·cases d
  ·split at d
   ·rename_i h g;cases d;exact⟨uc g,cK e f⟩
   ·split at d
    ·cases d
    ·split at d<;>cases d
 ·cases d
def cz(d:XE X c Γ){x:Str}{y:String}(h:Eb c x y=true):Gl X x/\x=Str.ofString y:=by
 unfold Eb at h;rw[Zl,Zl] at h;exact⟨(cK d h.1.1).1,of_decide_eq_true h.2⟩
def uk{x:Str}{e g:List Expr}{f:Fm}(h:fmN c x e=some (f,g)):∃y i j a d,e=[.Call (.Name y i) (a::d) [] j]/\g=a::d/\((f=.zip/\Eb c x "list" = true/\Eb c y "zip" = true)):=by
 unfold fmN at h;split at h
 ·split at h
  ·rename_i q;cases h;exact⟨_,_,_,_,_,rfl,rfl,⟨rfl,q.1,q.2⟩⟩
  ·cases h
 ·cases h
def KC(g:XE X c Γ){x:Str}{p pos:Pos}{s m:List Expr}{f:Fm}{t:List D}{w:W}{u:CF}(e:fmOf c x s=some (f,m))(j:m.all Bd=true)(v:DA X m u t)(d:fmW f t=some w):DE X (.Call (.Name x p) s [] pos) u w:=by
 have H:X.A.units+16<cLine:=by have:=g.un;omega
 unfold fmOf at e;split at e
 ·rename_i r z;cases e;obtain⟨y,I,J,a,B,rfl,rfl,h⟩:=uk z
  rw[W7,Zl] at j;rcases h with⟨rfl,n,C⟩
  ·obtain⟨o,q⟩:=cz g n
   obtain⟨E,F⟩:=cz g C
   subst q;subst F;unfold fmW at d;split at d
   all_goals first|(rename_i i;cases i;done)|skip
   all_goals first|(rename_i l i;cases i;done)|skip
   all_goals rename_i K L i
   ·split at d
    ·rename_i G;cases d;exact DE.nestT (sZ g.calm G) o (g.blt _ (by decide +kernel)) (by decide +kernel) vA vA E (g.blt _ (by decide +kernel)) (by decide +kernel) vA vA v j.1 j.2
    ·cases d
   ·cases d
 ·unfold fmT at e;split at e
  ·split at e
   ·rename_i a n;cases e;obtain⟨o,q⟩:=cz g n
    subst q;rw[W7,Zl] at j;unfold fmW at d;split at d
    all_goals first|(rename_i i;cases i;done)|skip
    all_goals rename_i l i
    all_goals first|(cases i;done)|skip
    ·cases d;exact DE.ty sP o (g.blt _ (by decide +kernel)) (by decide +kernel) vA vA v j.1 j.2
    ·cases d
   ·cases e
  ·cases e
def n7{d:D}{l:List D}(h:seqD d=some l):d=.lst l\/d=.tup l:=by
 cases d<;>first|(cases h;done)|(cases h;first|exact .inl rfl|exact .inr rfl)
def n8{d:D}{l:List D}(h:Ej d=some l):d=.lst l:=by
 cases d<;>first|(cases h;done)|(cases h;rfl)
def um{A:Expr->Option E}(p:XE X c Γ)(r:∀{e j n d},A e=some j->(ev Γ j n).map W.d=some d->DF X e n d){v e:Expr}{i:It'}{n:CF}{l:List D}(h:trI1 A c v e=some i)(f:evW Γ i n=some l):DIe X v e n l/\fe e=false:=by
 have M:∀{e j n k},A e=some j->((ev Γ j n).map W.d).bind CS=some k->DF X e n (.int k):=λ{e j n k} h f=>by
  obtain⟨d,g,o⟩:=Za.mp f
  rw[gf o] at g;exact r h g
 have B:∀{e j n l},A e=some j->evW Γ (.seq j) n=some l->DIe X v e n l:=λ{e j n l} h f=>by
  simp only[evW] at f;obtain⟨d,g,o⟩:=Za.mp f
  rcases n7 o with z|z
  ·subst z;exact DIe.list (r h g)
  ·subst z;exact DIe.tup (r h g)
 unfold trI1 at h;split at h
 ·refine⟨?_,rfl⟩
  split at h
  ·rename_i q;obtain⟨C,s,h⟩:=Zb.mp h
   subst h;simp only[evW] at f;obtain⟨m,N,f⟩:=Za.mp f
   split at f
   ·rename_i z;cases f;obtain⟨t,u⟩:=cz p q.1
    subst u;exact DIe.range1 t (p.blt _ (by decide +kernel)) (DA.cons (M s N) DA.nil q.2) q.2 z.1 z.2
   ·cases f
  ·split at h
   ·rename_i q;obtain⟨C,s,h⟩:=Zb.mp h
    subst h;simp only[evW] at f;obtain⟨O,F,f⟩:=Zb.mp f
    subst f;obtain⟨d,g,o⟩:=Za.mp F
    rw[n8 o] at g;obtain⟨t,u⟩:=cz p q.1
    subst u;cases v<;>first|(cases q.2.2;done)|skip
    exact DIe.enum t (p.blt _ (by decide +kernel)) (DA.cons (r s g) DA.nil q.2.1) q.2.1
   ·split at h
    ·rename_i q;obtain⟨C,s,h⟩:=Zb.mp h
     subst h;simp only[evW] at f;obtain⟨O,F,f⟩:=Zb.mp f
     subst f;obtain⟨d,g,o⟩:=Za.mp F
     rw[n8 o] at g;obtain⟨t,u⟩:=cz p q.1
     subst u;exact DIe.rev t (p.blt _ (by decide +kernel)) (DA.cons (r s g) DA.nil q.2) q.2
    ·obtain⟨j,w,h⟩:=Zb.mp h
     subst h;exact B w f
 ·refine⟨?_,rfl⟩
  split at h
  ·rename_i q;obtain⟨C,s,h⟩:=Za.mp h
   obtain⟨T,P,h⟩:=Zb.mp h
   subst h;simp only[evW] at f;obtain⟨l1,G,f⟩:=Za.mp f
   obtain⟨l2,H,f⟩:=Za.mp f
   obtain⟨U,g,Q⟩:=Za.mp G
   obtain⟨V,o,R⟩:=Za.mp H
   split at f
   ·rename_i z;cases f;obtain⟨t,u⟩:=cz p q.1
    subst u;cases v<;>first|(cases q.2.2.2;done)|skip
    exact DIe.zg t (p.blt _ (by decide +kernel)) (DA.cons (r s g) (DA.cons (r P o) DA.nil q.2.2.1) q.2.1) Q R q.2.1 q.2.2.1 z
   ·cases f
  ·obtain⟨j,w,h⟩:=Zb.mp h
   subst h;exact B w f
 ·obtain⟨i,S,h⟩:=Zb.mp h
  subst h;simp only[evW] at f;obtain⟨d,g,o⟩:=Za.mp f
  obtain⟨I,J,K,L⟩:=bH p S
  refine⟨?_,rfl⟩
  rcases n7 o with z|z
  ·subst z;exact DIe.list (DF.var I (Loc.vis J) K L (iP g))
  ·subst z;exact DIe.tup (DF.var I (Loc.vis J) K L (iP g))
 ·split at h
  ·rename_i q;obtain⟨j,w,h⟩:=Zb.mp h
   subst h;exact⟨B w f,q⟩
  ·cases h
def kJ{e:Expr}{env:Env}(h:fe e=false):∀x,foldedSetIterable e env x=pure x:=λx=>by
 cases e<;>first|(cases h;done)|rfl
def HN(d:XE X c Γ){scope:Scope}(e:fc c scope=true){f:Cx}(h:iK X scope (locs scope++frs' scope) f):XE f (DP c scope) Γ:=by
 obtain⟨m,C,g,i,ex,rfl⟩:=h
 unfold fc at e;simp only[Zl,decide_eq_true_eq] at e;obtain⟨⟨⟨⟨⟨j,n⟩,o⟩,p⟩,l⟩,q⟩:=e
 refine⟨rfl,?_,l,d.calm,?_,d.calls,d.xf,d.un,d.blt⟩
 ·show relabel scope X.env=IQ scope c.sc;rw[<-d.hsc];rfl
 ·show(relabel scope X.env).kind=.function;exact j
def uo{sc:Scope}{x:Str}(h:x∈frs' sc):(x,NameKind.free)∈sc.names:=by
 unfold frs' at h;obtain⟨y,d,e⟩:=Uf.mp h
 split at e
 ·rename_i k;cases e;rw[<-k];exact d
 ·cases e
theorem n9{N:List Str}:∀{l:List Str}{fr:List Nat},DJ N l=some fr->fr.length=l.length/\∀(m:Nat) (x:Str),l[m]? = some x->∃j:Nat,fr[m]? = some j/\N[j]? = some x
 |[],fr,h=>by simp only[DJ] at h;cases h;exact⟨rfl,λm x e=>by simp at e⟩
 |y::l,fr,h=>by
  simp only[DJ] at h;obtain⟨i,d,h⟩:=Za.mp h
  obtain⟨r,f,h⟩:=Zb.mp h
  subst h;obtain⟨g,n⟩:=n9 f
  refine⟨by rw[Zw,Zw,g],λm x e=>?_⟩
  cases m with
  |zero=>simp at e;subst e;exact⟨i,by simp,e8 d⟩
  |succ m=>simpa using n m x (by simpa using e)
def uq(d:XE X c Γ){scope:Scope}{fr:List Nat}(f:fc c scope=true)(h:DJ c.N (frs' scope)=some fr):CompOk X scope (locs scope) (frs' scope) fr:=by
 unfold fc at f;simp only[Zl,decide_eq_true_eq,Uw] at f;obtain⟨⟨⟨⟨⟨i,l⟩,n⟩,g⟩,u⟩,v⟩:=f
 obtain⟨o,p⟩:=n9 h
 refine⟨i,l,n,λy q r=>?_,λm x e=>?_,o⟩
 ·show X.env.scope.names.lookup y.1=_;rw[d.hsc];exact(g y q r).1
 ·obtain⟨j,s,t⟩:=p m x e
  have:=g _ (uo (Yh e)) rfl
  refine⟨this.2,?_,j,s,by rw[d.hN];exact t⟩
  show X.env.scope.names.lookup x=_;rw[d.hsc];exact this.1
def oa(d:XE X c Γ){x:Str}{i:Nat}(h:iM c x=some i):X.N[i]? = some x/\X.env.scope.names.lookup x=some .local:=by
 unfold iM at h;split at h
 ·rename_i k;exact⟨by rw[d.hN];exact e8 h,by rw[d.hsc];exact k⟩
 ·cases h
def iS{f e:CF}{i:Nat}{d:D}(h:Dp f i d=some e):i<f.length/\e=f.set i (some d):=by
 unfold Dp at h;by_cases q:i<f.length
 ·rw[if_pos q] at h;cases h;exact⟨q,rfl⟩
 ·rw[if_neg q] at h;cases h
theorem oe(o:XE X c Γ):∀{n:List Expr}{r:List Nat}{f:List D}{s j:CF},f9 c n=some r->dv r f s=some j->DGse X n f s j/\n.all Bd=true/\f.length=n.length
 |[],r,f,s,j,h,m=>by
  simp only[f9] at h;cases h;cases f with
  |nil=>cases m;exact⟨DGse.nil,rfl,rfl⟩
  |cons d f=>cases m
 |t::n,r,f,s,j,h,m=>by
  unfold f9 at h;split at h
  ·rename_i z;cases z
  ·rename_i x p F z;cases z;obtain⟨i,u,h⟩:=Za.mp h
   obtain⟨l,v,h⟩:=Zb.mp h
   subst h;cases f with
   |nil=>cases m
   |cons d f=>
    simp only[dv] at m;obtain⟨w,A,m⟩:=Za.mp m
    obtain⟨q,e⟩:=iS A
    subst e;obtain⟨g,B,g3⟩:=oe o v m
    obtain⟨C,E⟩:=oa o u
    exact⟨DGse.cons (DGe.name (by rw[o.hN];exact o.nd) C E q) g rfl,by rw[W7,B];rfl,by rw[Zw,Zw,g3]⟩
  ·cases h
def ur(j:XE X c Γ){n:Expr}{t:Tg}(h:iN c n=some t){d:D}{o m:CF}(f:ck t d o=some m):DGe X n d o m:=by
 unfold iN at h;split at h
 ·obtain⟨i,p,h⟩:=Zb.mp h
  subst h;simp only[ck] at f;obtain⟨q,e⟩:=iS f
  subst e;obtain⟨r,s⟩:=oa j p
  exact DGe.name (by rw[j.hN];exact j.nd) r s q
 ·obtain⟨l,u,h⟩:=Zb.mp h
  subst h;cases d<;>first|(simp only[ck] at f;cases f;done)|skip
  simp only[ck] at f;obtain⟨g,v,g3⟩:=oe j u f
  exact DGe.tup j.calm g v g3
 ·cases h
theorem og{o:Nat}{fr:List Nat}{ρ0:CF}:∀{p:List Nat}{l:List D}{n f:CF},(p.all λi=>decide (i<o))=true->dv p l n=some f->(∀(i:Nat) d,(blkR o fr ρ0)[i]? = some (some d)->n[i]? = some (some d))->∀(i:Nat) d,(blkR o fr ρ0)[i]? = some (some d)->f[i]? = some (some d)
 |[],l,n,f,_,g,h=>by
  cases l with
  |nil=>cases g;exact h
  |cons d l=>cases g
 |j::p,l,n,f,r,g,h=>by
  cases l with
  |nil=>cases g
  |cons d l=>
   rw[W7,Zl] at r;simp only[dv] at g;obtain⟨s,t,g⟩:=Za.mp g
   obtain⟨q,e⟩:=iS t
   subst e;refine og r.2 g λi u e=>?_;obtain⟨m,_,v,_,_⟩:=eV e
   have:=of_decide_eq_true r.1
   rw[Z7 vB];exact h i u e
def uu{h:Nat}{fr:List Nat}{ρ0:CF}{t:Tg}{d:D}{g:CF}(l:Ez h t=true)(f:ck t d (blkR h fr ρ0)=some g):∀(i:Nat) d,(blkR h fr ρ0)[i]? = some (some d)->g[i]? = some (some d):=by
 cases t with
 |name j=>
  simp only[ck] at f;obtain⟨q,e⟩:=iS f
  subst e;intro i n e;obtain⟨m,_,o,_,_⟩:=eV e
  have:=of_decide_eq_true l
  rw[Z7 vB];exact e
 |tup p=>
  cases d<;>first|(simp only[ck] at f;cases f;done)|skip
  simp only[ck] at f;exact og l f λi d e=>e
def uw(X:Cx)(p r j:Expr)(l:List Expr)(scope:Scope)(q:CF)(w:W):Prop:=∃(g m:List D) (f:D->Option (Option D)) (fr:List Nat),w=.new m/\CompOk X scope (locs scope) (frs' scope) fr/\DIe X r j q g/\(∀x,foldedSetIterable j X.env x=pure x)/\g.length<=sizeLine/\bG f g=some m /\
 ∀(n:Cx),iK X scope (locs scope++frs' scope) n->∀(d:D) (o:Option D),d∈g->f d=some o->∃h,DGe n r d (blkR (locs scope).length fr q) h/\(∀(i:Nat) d,(blkR (locs scope).length fr q)[i]? = some (some d)->h[i]? = some (some d)) /\
   (match o with|none=>D0 n l h false|some e=>D0 n l h true/\DF n p h e)
def oh{n:Nat}(D:XE X c Γ)(T:∀{e g i d},trE n c e=some g->(ev Γ g i).map W.d=some d->DF X e i d)(U:∀p v,XE p v Γ->∀e g i w,trE n v e=some g->ev Γ g i=some w->DE p e i w)
 (V:∀p v,XE p v Γ->∀e g i k,Dn n v e=some g->((ev Γ g i).map W.d).bind bp=some k->DT p e i k){A F s:Expr}{q:List Expr}{scope:Scope}{g:E}{i:CF}{w:W}
 (h:(if fc c scope=true then(trI1 (trE n c) c F s).bind λP=>(iN (DP c scope) F).bind λt=>(DJ c.N (frs' scope)).bind λfr=>
   (trE n (DP c scope) A).bind λe=>(gb (Dn n (DP c scope)) q).map λk=>E.comp e t P (locs scope).length fr k else none)=some g)(l:ev Γ g i=some w):uw X A F s q scope i w:=by
 split at h
 case isFalse=>cases h
 rename_i Q;obtain⟨P,G,h⟩:=Za.mp h
 obtain⟨t,Y,h⟩:=Za.mp h
 obtain⟨fr,H,h⟩:=Za.mp h
 obtain⟨e1,I,h⟩:=Za.mp h
 obtain⟨k,f,h⟩:=Zb.mp h
 subst h;simp only[ev] at l;obtain⟨items,Z,l⟩:=Za.mp l
 split at l
 case isFalse=>cases l
 rename_i z;obtain⟨a0,B,l⟩:=Zb.mp l
 subst l;obtain⟨d1,d2⟩:=um D (λh l=>T h l) G Z
 refine⟨_,_,_,_,rfl,uq D Q H,d1,kJ d2,z.1,B,λp J d o hd m=>?_⟩
 obtain⟨C,R,m⟩:=Za.mp m
 obtain⟨S,r,m⟩:=Za.mp m
 have u:=HN D Q J;have j:D0 p q C S:=by
  revert f
  cases q with
  |nil=>
   intro f;simp only[gb] at f;cases f;simp only[Ec] at r;cases r;exact .inl ⟨rfl,rfl⟩
  |cons c1 rest=>
   cases rest with
   |nil=>
    intro f;simp only[gb] at f;obtain⟨c2,K,f⟩:=Zb.mp f
    subst f;simp only[Ec] at r;exact .inr ⟨c1,rfl,V p _ u _ _ _ _ K r⟩
   |cons c2 rest=>
    intro f;simp only[gb] at f;cases f
 refine⟨C,ur u Y R,uu z.2 R,?_⟩
 cases S with
 |false=>
  rw[if_neg Z0] at m;cases m;exact j
 |true=>
  rw[if_pos rfl] at m;obtain⟨de,L,m⟩:=Zb.mp m
  subst m;obtain⟨w,M,O⟩:=dz L
  subst O;exact⟨j,(U p _ u _ _ _ _ I M).df⟩
def dU:∀n (X:Cx) (c:TC),XE X c Γ->(∀e s r w,trE n c e=some s->ev Γ s r=some w->DE X e r w)/\(∀E l r M,trEs n c E=some l->evs Γ l r=some M->DA X E r M) /\
  (∀o o' r i,trO n c o=some o'->evo Γ o' r=some i->DO X o r i)/\(∀e s r k,Dn n c e=some s->((ev Γ s r).map W.d).bind bp=some k->DT X e r k) /\
  (∀S E p s r k,Dn n c (.BoolOp S E p)=some s->((ev Γ s r).map W.d).bind bp=some k->DW X (.BoolOp S E p) r k):=by
 intro n;induction n with
 |zero=>exact λX c B=>⟨λe s r w h=>by(simp only[trE] at h;cases h),λe s r w h=>by(simp only[trEs] at h;cases h),λe s r w h=>by(simp only[trO] at h;cases h),λe s r w h=>by(simp only[Dn] at h;cases h),λS E p s r w h=>by(simp only[Dn] at h;cases h)⟩
 |succ n U=>
  intro X c B;obtain⟨V,I,iO,O,iW⟩:=U X c B
  have D:∀{e s r d},trE n c e=some s->(ev Γ s r).map W.d=some d->DF X e r d:=λ{e s r d} h g=>by
   obtain⟨w,L,Y⟩:=dz g
   subst Y;exact(V _ _ _ _ h L).df
  have iB:∀{e s r k},trE n c e=some s->((ev Γ s r).map W.d).bind bp=some k->DF X e r (.bl k):=λ{e s r k} h g=>by
   obtain⟨d,L,Y⟩:=Za.mp g
   rw[ua Y] at L;exact D h L
  have iI:∀{e s r k},trE n c e=some s->((ev Γ s r).map W.d).bind CS=some k->DF X e r (.int k):=λ{e s r k} h g=>by
   obtain⟨d,L,Y⟩:=Za.mp g
   rw[gf Y] at L;exact D h L
  have a5:∀S E p s r k,Dn (n+1) c (.BoolOp S E p)=some s->((ev Γ s r).map W.d).bind bp=some k->DW X (.BoolOp S E p) r k:=by
   intro S E p s r k h g;simp only[Dn] at h;change trB _ p E S=some s at h
   unfold trB at h;split at h
   ·unfold kI at h;split at h
    ·exact DW.and1 (O _ _ _ _ h g)
    ·obtain⟨J,u,h⟩:=Za.mp h
     obtain⟨P,C,h⟩:=Zb.mp h
     subst h;simp only[ev] at g;obtain⟨d,F,g⟩:=Za.mp g
     obtain⟨w,G,z⟩:=dz F
     subst z;obtain⟨k1,v,m⟩:=Za.mp G
     cases k1 with
     |true=>
      rw[if_pos rfl] at m;exact DW.andT (O _ _ _ _ u v) (iW _ _ _ _ _ _ C (by rw[m];exact g))
     |false=>
      rw[if_neg Z0] at m;cases m;cases g;exact DW.andF (O _ _ _ _ u v) nk
    ·cases h
   ·unfold FG at h;split at h
    ·exact DW.or1 (O _ _ _ _ h g)
    ·obtain⟨J,u,h⟩:=Za.mp h
     obtain⟨P,C,h⟩:=Zb.mp h
     subst h;simp only[ev] at g;obtain⟨d,F,g⟩:=Za.mp g
     obtain⟨w,G,z⟩:=dz F
     subst z;obtain⟨k1,v,m⟩:=Za.mp G
     cases k1 with
     |true=>
      rw[if_pos rfl] at m;cases m;cases g;exact DW.orT (O _ _ _ _ u v) nk
     |false=>
      rw[if_neg Z0] at m;exact DW.orF (O _ _ _ _ u v) (iW _ _ _ _ _ _ C (by rw[m];exact g))
    ·cases h
  refine⟨λe s r w h g=>?_,λE l r M h g=>?_,λo o' r i h g=>?_,λe s r k h g=>?_,a5⟩
  ·simp only[trE] at h;unfold trE1 at h;split at h
   ·-- Name
    obtain⟨i,L,Y⟩:=Zb.mp h
    subst Y;simp only[ev] at g;obtain⟨d,h3,h4⟩:=Zb.mp g
    subst h4;obtain⟨a1,a2,a3,a4⟩:=bH B L
    exact(DF.var a1 (Loc.vis a2) a3 a4 (iP h3)).de
   ·unfold trK at h;split at h
    ·cases h;simp only[ev] at g;cases g;exact DF.cint.de
    ·cases h;simp only[ev] at g;cases g;exact DF.cbl.de
    ·cases h;simp only[ev] at g;cases g;exact DF.cnon.de
    ·cases h
   ·-- BinOp
    obtain⟨o,ho,h⟩:=Za.mp h
    obtain⟨J,u,h⟩:=Za.mp h
    obtain⟨P,C,h⟩:=Zb.mp h
    subst h;simp only[ev] at g;obtain⟨x,K,g⟩:=Za.mp g
    obtain⟨y,N,g⟩:=Za.mp g
    exact I7 ho (D u K) (D C N) g
   ·unfold trU at h;split at h
    ·-- USub
     obtain⟨J,u,h⟩:=Zb.mp h
     subst h;simp only[ev] at g;obtain⟨i,Z,g⟩:=Zb.mp g
     subst g;exact DE.neg (iI u Z)
    ·-- Not
     obtain⟨J,u,h⟩:=Zb.mp h
     subst h;simp only[ev] at g;obtain⟨i,Z,g⟩:=Zb.mp g
     subst g;exact DE.not (iB u Z)
    ·cases h
   ·unfold trB at h;split at h
    ·unfold kI at h;split at h
     ·exact DE.one (V _ _ _ _ h g)
     ·-- And
      obtain⟨J,u,h⟩:=Za.mp h
      obtain⟨P,C,h⟩:=Zb.mp h
      subst h;simp only[ev] at g;obtain⟨k,v,g⟩:=Za.mp g
      cases k with
      |true=>
       rw[if_pos rfl] at g;exact DE.andT (iB u v) (V _ _ _ _ C g)
      |false=>
       rw[if_neg Z0] at g;cases g;exact DE.andF (iB u v)
     ·cases h
    ·unfold FG at h;split at h
     ·exact DE.one (V _ _ _ _ h g)
     ·-- Or
      obtain⟨J,u,h⟩:=Za.mp h
      obtain⟨P,C,h⟩:=Zb.mp h
      subst h;simp only[ev] at g;obtain⟨k,v,g⟩:=Za.mp g
      cases k with
      |true=>
       rw[if_pos rfl] at g;cases g;exact DE.orT (iB u v)
      |false=>
       rw[if_neg Z0] at g;exact DE.orF (iB u v) (V _ _ _ _ C g)
     ·cases h
   ·unfold trCp at h;split at h
    ·-- Compare
     split at h
     case isFalse=>cases h
     rename_i a0;obtain⟨o,ho,h⟩:=Za.mp h
     obtain⟨J,u,h⟩:=Za.mp h
     obtain⟨P,C,h⟩:=Zb.mp h
     subst h;simp only[ev] at g;obtain⟨x,K,g⟩:=Za.mp g
     obtain⟨y,N,g⟩:=Za.mp g
     obtain⟨k,v,g⟩:=Zb.mp g
     subst g;exact DE.cmp (n5 B.un ho v) (D u K) (D C N) a0
    ·cases h
   ·-- Tuple
    obtain⟨l,H,h⟩:=Zb.mp h
    subst h;simp only[ev] at g;obtain⟨M,m,g⟩:=Za.mp g
    by_cases q:M.length<=sizeLine
    ·rw[if_pos q] at g;cases g;exact DE.tup (I _ _ _ _ H m) q
    ·rw[if_neg q] at g;cases g
   ·-- List
    obtain⟨l,H,h⟩:=Zb.mp h
    subst h;simp only[ev] at g;obtain⟨M,m,g⟩:=Za.mp g
    by_cases q:M.length<=sizeLine
    ·rw[if_pos q] at g;cases g;exact DE.lst (I _ _ _ _ H m) q
    ·rw[if_neg q] at g;cases g
   ·unfold trLC at h;split at h
    ·-- a comprehension
     obtain⟨items,aa,f,fr,e1,hC,hI,hS,hz,hr,C⟩:=oh B (λh g=>D h g) (λX' c' h=>(U X' c' h).1) (λX' c' h=>(U X' c' h).2.2.2.1) h g
     subst e1;exact DE.comp B.calm hC hI hS hz hr C
    ·cases h
   ·unfold trSb at h;split at h
    ·-- a slice
     obtain⟨J,u,h⟩:=Za.mp h
     obtain⟨l',H,h⟩:=Za.mp h
     obtain⟨h',Q,h⟩:=Zb.mp h
     subst h;simp only[ev] at g;obtain⟨x,K,g⟩:=Za.mp g
     obtain⟨i,Z,g⟩:=Za.mp g
     obtain⟨j,hj,g⟩:=Za.mp g
     cases x<;>first|(cases g;done)|skip
     cases g;exact DE.slL (D u K) (iO _ _ _ _ H Z) (iO _ _ _ _ Q hj)
    ·-- a subscript
     split at h
     ·rename_i hs;obtain⟨J,u,h⟩:=Za.mp h
      obtain⟨P,C,h⟩:=Zb.mp h
      subst h;simp only[ev] at g;obtain⟨x,K,g⟩:=Za.mp g
      obtain⟨y,N,g⟩:=Za.mp g
      obtain⟨d,m,g⟩:=Zb.mp g
      subst g;unfold ixD at m;split at m
      ·exact DE.ixT (D u K) (D C N) hs m
      ·exact DE.ixL (D u K) (D C N) hs m
      ·cases m
     ·cases h
   ·-- c if t else e
    obtain⟨t',ht,h⟩:=Za.mp h
    obtain⟨J,u,h⟩:=Za.mp h
    obtain⟨P,C,h⟩:=Zb.mp h
    subst h;simp only[ev] at g;obtain⟨k,v,g⟩:=Za.mp g
    cases k with
    |true=>rw[if_pos rfl] at g;exact DE.ifT (O _ _ _ _ ht v) (V _ _ _ _ u g)
    |false=>rw[if_neg vA] at g;exact DE.ifF (O _ _ _ _ ht v) (V _ _ _ _ C g)
   ·-- a field
    unfold Iw at h;split at h
    ·rename_i q;obtain⟨j,hj,h⟩:=Za.mp h
     obtain⟨J,u,h⟩:=Zb.mp h
     subst h;simp only[ev] at g;obtain⟨d,m,g⟩:=Zb.mp g
     obtain⟨x,K,m⟩:=Za.mp m
     subst g;cases x<;>first|(cases m;done)|skip
     exact DE.fld (B.xf q.1) (D u K) q.2 (e8 hj) m
    ·cases h
   ·unfold Iv at h;split at h
    ·rename_i q;obtain⟨i,L,h⟩:=Za.mp h
     obtain⟨P,C,h⟩:=Zb.mp h
     subst h;simp only[ev] at g;obtain⟨d,m,g⟩:=Za.mp g
     obtain⟨y,N,g⟩:=Za.mp g
     obtain⟨w1,h3,h4⟩:=dz m
     obtain⟨d1,h5,h6⟩:=Zb.mp h3
     subst h6;subst h4;obtain⟨a1,a2,a3,a4⟩:=bH B L
     obtain⟨q1,q2,q3⟩:=q
     subst q1;cases d1<;>first|(cases g;done)|skip
     obtain⟨k,v,e⟩:=Zb.mp g
     subst e;exact DE.idx B.un (DF.var a1 (Loc.vis a2) a3 a4 (iP h5)) (D C N) q2 q3 v
    ·cases h
   ·-- a call
    rename_i x p e E pos;split at h
    ·rename_i f as hf;obtain⟨l,H,h⟩:=Zb.mp h
     subst h;simp only[ev] at g;obtain⟨M,m,g⟩:=Za.mp g
     exact KC B hf (iR H) (I _ _ _ _ H m) g
    split at h
    ·rename_i f k Q;split at h
     ·rename_i v;obtain⟨l,H,h⟩:=Zb.mp h
      subst h;simp only[ev] at g;obtain⟨M,m,g⟩:=Za.mp g
      obtain⟨hf,g1,g2⟩:=ui B Q
      have A:=iR H;rw[W7,Zl] at A;exact DE.call (B.calls _ _ _ hf) g1 g2 (I _ _ _ _ H m) ((uf H m).trans v) g A.1 A.2
     ·cases h
    ·rename_i b Q;obtain⟨l,H,h⟩:=Zb.mp h
     subst h;simp only[ev] at g;obtain⟨M,m,g⟩:=Za.mp g
     obtain⟨e1,g1,g2⟩:=uj B Q
     have A:=iR H;rw[W7,Zl] at A;subst e1;exact DE.blt (KY B.calm B.un g) g1 (B.blt _ (n6 b).2) (ud b) (n6 b).1 g2 (I _ _ _ _ H m) A.1 A.2
    ·rename_i Q;obtain⟨ex,R⟩:=ug B Q
     subst ex;split at h
     ·rename_i y p2;split at h
      ·rename_i a6;obtain⟨g3,g4⟩:=cK B a6.1
       split at h
       ·rename_i t ht;obtain⟨s,T,h⟩:=Zb.mp h
        subst h;simp only[ev] at g;obtain⟨d,m,g⟩:=Za.mp g
        obtain⟨k,v,g⟩:=Zb.mp g
        subst g;have e1:=ub ht;subst e1;have e2:k=isTy t d:=by
         unfold eY at v;split at v
         ·cases v
         ·cases v
         ·cases v;rfl
        subst e2;exact DE.isi v (D T m) a6.2 R (B.blt _ (by decide +kernel)) rfl g3 (B.blt _ (ue t))
       ·cases h
      ·cases h
     ·cases h
    ·rename_i Q;obtain⟨ex,R⟩:=uh B Q
     subst ex;split at h
     ·split at h
      ·rename_i A;obtain⟨s,T,h⟩:=Zb.mp h
       subst h;simp only[ev] at g;obtain⟨d,m,g⟩:=Za.mp g
       cases d<;>first|(cases g;done)|skip
       ·cases g;exact DE.ty sJ R (B.blt _ (by decide +kernel)) (by decide +kernel) vA vA (DA.cons (D T m) DA.nil A) A rfl
       ·cases g;exact DE.ty sI R (B.blt _ (by decide +kernel)) (by decide +kernel) vA vA (DA.cons (D T m) DA.nil A) A rfl
      ·cases h
     ·cases h
    ·cases h
   ·cases h
  ·cases E with
   |nil=>
    simp only[trEs] at h;cases h;simp only[evs] at g;cases g;exact DA.nil
   |cons e E=>
    simp only[trEs] at h;by_cases q:Bd e=true
    ·rw[if_pos q] at h;obtain⟨s,T,h⟩:=Za.mp h
     obtain⟨l',h3,z⟩:=Zb.mp h
     subst z;simp only[evs] at g;obtain⟨d,m,g⟩:=Za.mp g
     obtain⟨ab,a7,z⟩:=Zb.mp g
     subst z;exact DA.cons (D T m) (I _ _ _ _ h3 a7) q
    ·rw[if_neg q] at h;cases h
  ·cases o with
   |none=>
    simp only[trO] at h;cases h;simp only[evo] at g;cases g;exact DO.none
   |some e=>
    simp only[trO] at h;obtain⟨s,T,h⟩:=Zb.mp h
    subst h;simp only[evo] at g;obtain⟨i,Z,g⟩:=Zb.mp g
    subst g;exact DO.some (iI T Z)
  ·have h0:=h;simp only[Dn] at h;unfold trT1 at h;split at h
   ·unfold trN at h;split at h
    ·obtain⟨J,u,h⟩:=Zb.mp h
     subst h;simp only[ev] at g;obtain⟨d,F,g⟩:=Za.mp g
     obtain⟨w,G,z⟩:=dz F
     subst z;obtain⟨k1,v,m⟩:=Zb.mp G
     subst m;cases g;exact DT.not (O _ _ _ _ u v)
    ·cases h
   ·exact(a5 _ _ _ _ _ _ h0 g).dt
   ·unfold trCp at h;split at h
    ·split at h
     case isFalse=>cases h
     rename_i a0;obtain⟨o,ho,h⟩:=Za.mp h
     obtain⟨J,u,h⟩:=Za.mp h
     obtain⟨P,C,h⟩:=Zb.mp h
     subst h;simp only[ev] at g;obtain⟨d,F,g⟩:=Za.mp g
     obtain⟨w,G,z⟩:=dz F
     subst z;obtain⟨x,K,a8⟩:=Za.mp G
     obtain⟨y,N,a9⟩:=Za.mp a8
     obtain⟨k1,v,m⟩:=Zb.mp a9
     subst m;cases g;exact DT.cmp (n5 B.un ho v) (D u K) (D C N) a0
    ·cases h
   ·split at h
    ·rename_i hp;exact DT.val (iB h g) (t9 hp)
    ·cases h
def cm(f:XE X c Γ)(n:Nat):(∀e g d w,trE n c e=some g->ev Γ g d=some w->DE X e d w)/\(∀h l d j,trEs n c h=some l->evs Γ l d=some j->DA X h d j) /\
  (∀o m d i,trO n c o=some m->evo Γ m d=some i->DO X o d i):=⟨(dU n X c f).1,(dU n X c f).2.1,(dU n X c f).2.2.1⟩
def iT(h:XE X c Γ)(n:Nat):(∀e f g k,Dn n c e=some f->((ev Γ f g).map W.d).bind bp=some k->DT X e g k) /\
  (∀i j p f g k,Dn n c (.BoolOp i j p)=some f->((ev Γ f g).map W.d).bind bp=some k->DW X (.BoolOp i j p) g k):=⟨(dU n X c h).2.2.2.1,(dU n X c h).2.2.2.2⟩
end
open PySem L2 PyProof.Rows
def cW:Expr->Bool
 |.ListComp _ _ _ _=>true
 |.SetComp _ _ _ _=>true
 |.DictComp _ _ _ _ _=>true
 |_=>false
def dW{e t:Expr}{d:Nat}{env:Env}(h:cW e=false):swapsWith e (some t) d env=pure false:=by
 cases e<;>first|rfl|(cases h;done)
def ux{e:Expr}{d:List Expr}{k:Nat}{p:Pos}{env:Env}(h:fZ e=false):swappedStores [.Tuple d k p] e env=pure none:=by
 cases e<;>first|(cases h;done)|rfl
def uy{e a k:Expr}{p:Pos}{env:Env}:swappedStores [.Subscript a k p] e env=pure none:=by
 cases e<;>rfl
def uz{e t:Expr}{d:Nat}{env:Env}(h:cW e=false):swapsWithSole [t] e d env=pure false:=by
 unfold swapsWithSole;exact dW h
noncomputable def LP(sc:Scope)(x:Str)(d pos:Pos)(scope:Scope):Bool:=decide (sc.names.lookup x=some NameKind.local) && (d.line == pos.line) && !(scope.names.any λ(n,k)=>n == x && (k == NameKind.local || k == NameKind.cell))
def oi{x:Str}{g pos:Pos}{e:Expr}{h:List Comprehension}{scope:Scope}{d:Nat}{env:Env}(i:env.scope.kind=.function):swapsWith (.ListComp e h scope pos) (some (.Name x g)) d env=pure (LP env.scope x g pos scope):=by
 have f:env.blockKind=.function:=by unfold Env.blockKind;rw[i];rfl
 have j:(env.kindOf x == some NameKind.local)=decide (env.scope.names.lookup x=some NameKind.local):=by
  unfold Env.kindOf;by_cases q:env.scope.names.lookup x=some NameKind.local
  ·rw[q];rfl
  ·rw[decide_eq_false q];cases z:env.scope.names.lookup x with
   |none=>rfl
   |some k=>cases k<;>first|rfl|(exact absurd z q)
 show pure _=pure _;rw[f];unfold LP;rw[<-j];rfl
def uA{x y:Str}{a b:Expr}{e f n o:Pos}{p g:Nat}{env:Env}(r:env.scope.kind=.function)(j:env.scope.names.lookup x=some .local)(l:env.scope.names.lookup y=some .local)(s:(e.line == f.line)=true)(d:x≠y)
 (t:Bd a=true)(u:Bd b=true)(v:([a,b].all (foldedForSure 8))=false)(w:([a,b].all (constantsAlone 8))=false):
  swappedStores [.Tuple [.Name x e,.Name y f] p n] (.Tuple [a,b] g o) env=pure (some [x,y]):=by
 have i:env.blockKind=.function:=by unfold Env.blockKind;rw[r];rfl
 have B:(env.kindOf x == some NameKind.local)=true:=by unfold Env.kindOf;rw[j];rfl
 have C:(env.kindOf y == some NameKind.local)=true:=by unfold Env.kindOf;rw[l];rfl
 have m:(y == x)=false:=by
  cases q:(y == x) with
  |false=>rfl
  |true=>exact absurd (eq_of_beq q).symm d
 have z:env.kindOf x=some NameKind.local:=j;have g:env.kindOf y=some NameKind.local:=l;have l1:f.line=e.line:=(eq_of_beq s).symm;have A:(Expr.Name x e).pos=e:=rfl;unfold swappedStores;simp only[Zw,Kv,i,v,w];simp[List.eraseDups,List.eraseDupsBy,List.eraseDupsBy.loop,m,d,Wz d]
 rw[if_neg (by
  rintro(h|h)
  ·revert t h;cases a<;>simp[Bd]
  ·revert u h;cases b<;>simp[Bd])]
 simp[Kx,z,g,l1,A,List.eraseDups,List.eraseDupsBy,List.eraseDupsBy.loop,m,d,Wz d]
open PySem L2 PyProof.Rows
def slots(c:TC):List Expr->Option (List Nat)
 |[]=>some []
 |.Name x _::d=>(slot c x).bind λi=>(slots c d).map λl=>i::l
 |_=>none
def trTg(c:TC):Expr->Option Tg
 |.Name x _=>(slot c x).map Tg.name
 |.Tuple d _ _=>(slots c d).map Tg.tup
 |_=>none
noncomputable def kK(n:Nat)(c:TC)(x:Str):Expr->Option S
 |.ListComp d f scope pos=>if c.sc.kind=.function then(slot c x).bind λi=>(trE n c (.ListComp d f scope pos)).map (S.asg i) else none
 |e=>if cW e=false then(slot c x).bind λi=>(trE n c e).map (S.asg i) else none
noncomputable def kL(n:Nat)(c:TC):List Expr->Expr->Option S
 |[.Name x d,.Name y f],.Tuple [a,b] _ _=>
  if (d.line == f.line)=true/\x≠y/\Bd a=true/\Bd b=true/\([a,b].all (foldedForSure 8))=false/\([a,b].all (constantsAlone 8))=false/\c.sc.names.lookup x=some .local/\c.sc.names.lookup y=some .local then
   (slot c x).bind λi=>(slot c y).bind λj=>(trE n c a).bind λg=>(trE n c b).map λh=>S.par i j g h
  else none
 |ts,e=>if cW e=false/\fZ e=false then(slots c ts).bind λl=>(trE n c e).map (S.unp l) else none
noncomputable def kM(n:Nat)(c:TC)(e:Expr):Expr->Option S
 |.Name x _=>kK n c x e
 |.Subscript (.Name x _) k _=>if cW e=false/\eT k=true then(slot c x).bind λi=>(trE n c k).bind λd=>(trE n c e).map (S.seti i d) else none
 |.Tuple f _ _=>kL n c f e
 |_=>some .never
def kN(n:Nat)(c:TC):Expr->Option S
 |.Name x _=>(slot c x).map S.retV
 |e=>(trE n c e).map S.ret
def vN:Expr->Option Str
 |.Name x _=>some x
 |_=>none
def Lz{s:Expr}{x:Str}(h:vN s=some x):∃p,s = .Name x p:=by
 unfold vN at h;split at h
 ·cases h;exact⟨_,rfl⟩
 ·cases h
def LA:Expr->Option (Expr×List Expr×Pos)
 |.Call f d [] p=>some (f,d,p)
 |_=>none
def vAt:Expr->Option (Expr×Str×Pos)
 |.Attribute a m p=>some (a,m,p)
 |_=>none
def xV(e:Expr):Option (Str×Str×Pos×List Expr×Pos):=(LA e).bind λp=>(vAt p.1).bind λq=>(vN q.1).map λx=>(x,q.2.1,q.2.2,p.2)
def Il{s:Expr}{e:Expr×List Expr×Pos}(h:LA s=some e):s = .Call e.1 e.2.1 [] e.2.2:=by
 unfold LA at h;split at h
 ·cases h;rfl
 ·cases h
def Im{s:Expr}{e:Expr×Str×Pos}(h:vAt s=some e):s = .Attribute e.1 e.2.1 e.2.2:=by
 unfold vAt at h;split at h
 ·cases h;rfl
 ·cases h
def Ly{e:Expr}{x m:Str}{j n:Pos}{o:List Expr}(h:xV e=some (x,m,j,o,n)):∃p,e = .Call (.Attribute (.Name x p) m j) o [] n:=by
 unfold xV at h;obtain⟨⟨f,l,z⟩,d,h⟩:=Za.mp h
 obtain⟨⟨a,r,q⟩,g,h⟩:=Za.mp h
 obtain⟨y,i,h⟩:=Zb.mp h
 cases h;obtain⟨p,i⟩:=Lz i
 have d:=Il d;have g:=Im g;dsimp only at d g i;exact⟨p,by rw[d,g,i]⟩
noncomputable def trX2(n:Nat)(c:TC)(x m:Str)(d f:Pos):List Expr->Option S
 |[e]=>if m=("append" : Str)/\(d.endLine == f.line)=true/\Bd e=true then(slot c x).bind λi=>(trE n c e).map (S.app i) else some .never
 |_=>some .never
def trX(n:Nat)(c:TC)(e:Expr):Option S:=match xV e with
 |some p=>trX2 n c p.1 p.2.1 p.2.2.1 p.2.2.2.2 p.2.2.2.1
 |none=>some .never
noncomputable def trZ(c:TC)(d:Expr):Expr->Option It'
 |.Call (.Name x _) [.Name y _,.Name z _] [] _=>if Eb c x "zip" = true/\fZ d=true then(slot c y).bind λi=>(slot c z).map λj=>It'.zipV i j else none
 |_=>none
def FH(f:Expr->Option E)(c:TC)(d e:Expr):Option It':=match trZ c d e with
 |some i=>some i
 |none=>trI1 f c d e
noncomputable def trS1(n:Nat)(d:List Stmt->Option Ss)(c:TC):Stmt->Option S
 |.Assign [t] e _=>kM n c e t
 |.Return (some e) _=>kN n c e
 |.If t a b _=>(Dn n c t).bind λh=>(d a).bind λl=>(d b).map λf=>S.iff h l f
 |.While t b [] _=>(Dn n c t).bind λh=>(d b).map λf=>S.whl h f
 |.For j m b [] _=>(trTg c j).bind λg=>(FH (trE n c) c j m).bind λi=>(d b).map λf=>S.frr g i f
 |.Expr e _=>trX n c e
 |_=>some .never
mutual
def trS:Nat->TC->Stmt->Option S
 |0,_,_=>none
 |n+1,c,s=>trS1 n (trSs n c) c s
def trSs:Nat->TC->List Stmt->Option Ss
 |0,_,_=>none
 |n+1,c,[]=>some .nil
 |n+1,c,s::l=>(trS n c s).bind λd=>(trSs n c l).map λe=>.cons d e
end
section
variable{X:Cx}{c:TC}{Γ:Nat->∅}
def dX(i:XC X c Γ){n:Nat}{e:Expr}{f:E}{g:CF}{d:D}(h:trE n c e=some f)(j:(ev Γ f g).map W.d=some d):DF X e g d:=by
 obtain⟨w,l,m⟩:=dz j
 subst m;exact((cm i.toXE n).1 _ _ _ _ h l).df
def Fh(j:XC X c Γ){n:Nat}{e:Expr}{f:E}{g:CF}{k:Int}(h:trE n c e=some f)(l:((ev Γ f g).map W.d).bind CS=some k):DF X e g (.int k):=by
 obtain⟨d,i,m⟩:=Za.mp l
 rw[gf m] at i;exact dX j h i
def iU{e d:CB}{i:Nat}{b:B}(h:C8 e i b=some d):i<e.length/\d=e.set i (some b):=by
 unfold C8 at h;by_cases q:i<e.length
 ·rw[if_pos q] at h;cases h;exact⟨q,rfl⟩
 ·rw[if_neg q] at h;cases h
theorem oj(n:XC X c Γ):∀{o:List Expr}{r:List Nat}{f:List D}{s j:CB},slots c o=some r->eZ r f s=some j->DGs X o f s j/\o.all Bd=true/\f.length=o.length
 |[],r,f,s,j,h,m=>by
  simp only[slots] at h;cases h;cases f with
  |nil=>cases m;exact⟨DGs.nil,rfl,rfl⟩
  |cons d f=>cases m
 |t::o,r,f,s,j,h,m=>by
  unfold slots at h;split at h
  ·rename_i z;cases z
  ·rename_i x p F z;cases z;obtain⟨i,u,h⟩:=Za.mp h
   obtain⟨l,v,h⟩:=Zb.mp h
   subst h;cases f with
   |nil=>cases m
   |cons d f=>
    simp only[eZ] at m;obtain⟨w,A,m⟩:=Za.mp m
    obtain⟨q,e⟩:=iU A
    subst e;obtain⟨g,B,g3⟩:=oj n v m
    obtain⟨C,E,G,H⟩:=bH n.toXE u
    refine⟨DGs.cons (DG.name (by rw[n.hN];exact n.nd) C E (.inl (n.fn _)) q) g rfl,by rw[W7,B];rfl,by rw[Zw,Zw,g3]⟩
  ·cases h
def om(f:XC X c Γ){n:Expr}{t:Tg}(h:trTg c n=some t){d:D}{o m:CB}(j:Bo t d o=some m):DG X n d o m:=by
 unfold trTg at h;split at h
 ·obtain⟨i,p,h⟩:=Zb.mp h
  subst h;simp only[Bo] at j;obtain⟨q,e⟩:=iU j
  subst e;obtain⟨r,s,w,z⟩:=bH f.toXE p
  exact DG.name (by rw[f.hN];exact f.nd) r s (.inl (f.fn _)) q
 ·obtain⟨l,u,h⟩:=Zb.mp h
  subst h;cases d<;>first|(simp only[Bo] at j;cases j;done)|skip
  ·simp only[Bo] at j;obtain⟨g,v,g3⟩:=oj f u j
   exact DG.tup f.calm g v g3
 ·cases h
def DI.listV{q:Expr}{i:Nat}{x:Str}{p:Pos}{l:List D}{g:CB}(s:X.N[i]? = some x)(t:DX X.env.scope x)(h:(x == ("__debug__" : Str))=false)(j:(x == ("__classdict__" : Str))=false)(u:g[i]? = some (~~~.lst l)):DI X q (.Name x p) g l g:=λI J=>PI.mono (kc (bA s t h j)) λK H R ⟨F,S,k⟩=>by
 obtain⟨v,w,z⟩:=S.env i _ u
 obtain⟨a,e,A,f,r⟩:=z.lst
 refine⟨v,w,a,A,⟨e,S.sub.seq f⟩,k _ H F (Same.refl _) S λi L m=>⟨λd h=>?_,λn=>⟨e,m.seq f,by rw[r.length];exact n⟩⟩⟩
 obtain⟨y,o,B⟩:=r.get h
 refine⟨⟨e,y,m.seq f,o⟩,λx C ⟨E,G⟩=>?_⟩
 have:=G e (m.seq f)
 rw[o] at this;cases this;exact .inl ⟨E,B⟩
def DI.tupV{q:Expr}{i:Nat}{x:Str}{p:Pos}{l:List D}{g:CB}(s:X.N[i]? = some x)(t:DX X.env.scope x)(h:(x == ("__debug__" : Str))=false)(j:(x == ("__classdict__" : Str))=false)(u:g[i]? = some (~~~.tup l)):DI X q (.Name x p) g l g:=λI J=>PI.mono (kd (bA s t h j)) λK H R ⟨F,S,k⟩=>by
 obtain⟨v,w,z⟩:=S.env i _ u
 obtain⟨a,e,A,f,r⟩:=z.tup
 refine⟨v,w,a,A,⟨e,Same.tup S.sub f⟩,k _ H F (Same.refl _) S λi L m=>⟨λd h=>?_,λn=>⟨e,Same.tup m f,by rw[r.length];exact n⟩⟩⟩
 obtain⟨y,o,B⟩:=r.get h
 refine⟨⟨e,y,Same.tup m f,o⟩,λx C ⟨E,G⟩=>?_⟩
 have:=G e (Same.tup m f)
 rw[o] at this;cases this;exact .inl ⟨E,B⟩
def kO(i:XC X c Γ){n:Nat}{p e:Expr}{j:E}{m f:CB}{l:List D}(h:trE n c e=some j)(d:evI Γ (.seq j) m=some (l,f)):DI X p e m l f:=by
 simp only[evI] at d;obtain⟨w,o,d⟩:=Za.mp d
 split at d
 ·rename_i q g;cases d;exact DI.list ((cm i.toXE n).1 _ _ _ _ h o) g
 ·rename_i q g;cases d;exact DI.tup ((cm i.toXE n).1 _ _ _ _ h o) g
 ·cases d
def oo(f:XC X c Γ){n:Nat}{t e:Expr}{i:It'}{u j:CB}{l:List D}(h:trI1 (trE n c) c t e=some i)(d:evI Γ i u=some (l,j)):DI X t e u l j/\fe e=false:=by
 unfold trI1 at h;split at h
 ·refine⟨?_,rfl⟩
  split at h
  ·rename_i q;obtain⟨v,g,h⟩:=Zb.mp h
   subst h;simp only[evI] at d;obtain⟨m,I,d⟩:=Za.mp d
   split at d
   ·rename_i z;cases d;obtain⟨o,p⟩:=cz f.toXE q.1
    subst p;exact DI.range1 o (f.blt _ (by decide +kernel)) (DA.cons (Fh f g I) DA.nil q.2) q.2 z.1 z.2
   ·cases d
  ·split at h
   ·rename_i q;obtain⟨v,g,h⟩:=Zb.mp h
    subst h;simp only[evI] at d;obtain⟨w,J,d⟩:=Za.mp d
    split at d
    ·rename_i K L;cases d;obtain⟨o,p⟩:=cz f.toXE q.1
     subst p;have M:DF X _ (view u) (.lst K):=dX f g (by rw[J];exact congrArg some L);cases t<;>first|(cases q.2.2;done)|skip
     exact DI.enum o (f.blt _ (by decide +kernel)) (DA.cons M DA.nil q.2.1) q.2.1
    ·cases d
   ·split at h
    ·obtain⟨v,g,h⟩:=Zb.mp h
     subst h;simp only[evI] at d;cases d
    ·obtain⟨H,r,h⟩:=Zb.mp h
     subst h;exact kO f r d
 ·refine⟨?_,rfl⟩
  split at h
  ·rename_i q;obtain⟨v,g,h⟩:=Za.mp h
   obtain⟨T,N,h⟩:=Zb.mp h
   subst h;simp only[evI] at d;obtain⟨l1,A,d⟩:=Za.mp d
   obtain⟨l2,B,d⟩:=Za.mp d
   obtain⟨U,O,P⟩:=Za.mp A
   obtain⟨V,Q,R⟩:=Za.mp B
   split at d
   ·rename_i z;cases d;obtain⟨o,p⟩:=cz f.toXE q.1
    subst p;cases t<;>first|(cases q.2.2.2;done)|skip
    exact DI.zg o (f.blt _ (by decide +kernel)) (DA.cons (dX f g O) (DA.cons (dX f N Q) DA.nil q.2.2.1) q.2.1) P R q.2.1 q.2.2.1 z
   ·cases d
  ·obtain⟨H,r,h⟩:=Zb.mp h
   subst h;exact kO f r d
 ·obtain⟨i,S,h⟩:=Zb.mp h
  subst h;simp only[evI] at d;obtain⟨C,E,F,G⟩:=bH f.toXE S
  refine⟨?_,rfl⟩
  unfold seqB at d;split at d
  ·rename_i s;cases d;exact DI.listV C (Loc.vis E) F G s
  ·rename_i s;cases d;exact DI.tupV C (Loc.vis E) F G s
  ·rename_i s;cases d;exact DI.list (w:=.val (.lst l)) (DF.de (DF.var C (Loc.vis E) F G (by unfold view;rw[Zm,s];rfl))) rfl
  ·cases d
 ·split at h
  ·rename_i q;obtain⟨H,r,h⟩:=Zb.mp h
   subst h;exact⟨kO f r d,q⟩
  ·cases h
def oq{i:Nat}{f:CB}{d:D}(h:f[i]? = some (~~~d)):frA i f=f:=by
 unfold frA;rw[h];have g:=(Zi.mp h).1;apply Qv
 intro k;by_cases e:k=i
 ·subst e;rw[Ya g,h];rfl
 ·rw[Z7 (λz=>e z.symm)]
def gj{i:Nat}{e:CB}{d:D}(h:DV e[i]? = some d):(frA i e)[i]? = some (~~~d):=by
 unfold DV at h;split at h
 ·rename_i b f;cases h;unfold frA;rw[f];exact Ya (Zi.mp f).1
 ·cases h
def Hs{i j:Nat}{f:CB}{d:D}(h:DV f[j]? = some d):DV (frA i f)[j]? = some d:=by
 unfold frA;split
 ·rename_i b g;by_cases e:i=j
  ·subst e;rw[g] at h;rw[Ya (Zi.mp g).1];exact h
  ·rw[Z7 e];exact h
 ·exact h
theorem SR.frA{K:vE}{H0 Fc F H:Hp}{σ:L2.St}{ρ:CB}(S:SR K H0 Fc F H σ ρ)(i:Nat):∃t,Same F t/\SR K H0 Fc t H σ (DL.frA i ρ):=by
 cases h:ρ[i]? with
 |none=>exact⟨F,Same.refl _,by unfold DL.frA;rw[h];exact S⟩
 |some o=>cases o with
  |none=>exact⟨F,Same.refl _,by unfold DL.frA;rw[h];exact S⟩
  |some b=>cases b with
   |sh d=>exact⟨F,Same.refl _,by rw[oq h];exact S⟩
   |ow l=>
    obtain⟨a,A,p,C,E,G,I⟩:=S.own i l h
    have g:=bU (o:=.lst A) C;have w:=(Zi.mp h).1;have e:DL.frA i ρ=ρ.set i (~~~.lst l):=by unfold DL.frA;rw[h];rfl
    rw[e];have s:∀{k:Nat}{m:List D},(ρ.set i (some (B.sh (.lst l))))[k]? = some (some (.ow m))->k≠i/\ρ[k]? = some (some (.ow m)):=λ{k m} n=>by
     by_cases z:k=i
     ·subst z;rw[Ya w] at n;cases n
     ·rw[Z7 (λy=>z y.symm)] at n;exact⟨z,n⟩
    refine⟨_,g,⟨λb u q=>?_,S.same,S.base.trans g,λb u q=>?_,λk d q=>?_,λk m q=>?_,λk j m J b q L=>?_,?_⟩⟩
    ·by_cases f:b=a
     ·subst f;rw[Bh] at q;cases q;exact G
     ·rw[Bg f] at q;exact S.sub b u q
    ·by_cases f:b=a
     ·subst f;exact .inr E
     ·rw[Bg f] at q;exact S.new b u q
    ·by_cases z:k=i
     ·subst z;rw[Ya w] at q;cases q;exact⟨_,p,Den.lst_mk (SqL.of Bh) (I.mono g)⟩
     ·rw[Z7 (λy=>z y.symm)] at q;obtain⟨v,M,N⟩:=S.env k d q
      exact⟨v,M,N.mono g⟩
    ·obtain⟨z,q⟩:=s q
     obtain⟨b,O,r,P,Q,R,T⟩:=S.own k m q
     have f:b≠a:=λy=>by subst y;exact z (S.dis k i m l b q h r p)
     exact⟨b,O,r,by rw[Bg f];exact P,Q,R,T.mono g⟩
    ·exact S.dis k j m J b (s q).2 (s L).2
    ·rw[Wq];exact S.len
def DI.zv{d:List Expr}{w:Nat}{tp:Pos}{i j:Nat}{y z:Str}{p A B pos:Pos}{d1 d2:D}{l m:List D}{f:CB}(C:Gl X "zip")(E:X.mg "zip" = none)(n1:X.N[i]? = some y)(G:DX X.env.scope y)(b1:(y == ("__debug__" : Str))=false)(q:(y == ("__classdict__" : Str))=false)(n2:X.N[j]? = some z)(I:DX X.env.scope z)(J:(z == ("__debug__" : Str))=false)(s:(z == ("__classdict__" : Str))=false)(n:DV f[i]? = some d1)(o:DV f[j]? = some d2)(K:sqD d1=some l)(L:sqD d2=some m)(M:l.length=m.length):
  DI X (.Tuple d w tp) (.Call (.Name "zip" p) [.Name y A,.Name z B] [] pos) f (CN l m) (frA i (frA j f)):=λH0 Fc=>
 PI.mono (kE C E (cc (bA n1 G b1 q) (cc (bA n2 I J s) cJ)) rfl rfl) λσ H R ⟨F,S,k⟩=>by
  obtain⟨F1,O,P⟩:=S.frA j
  obtain⟨Q,T,g⟩:=P.frA i
  obtain⟨v,U,V⟩:=g.env i d1 (gj (Hs n))
  have W:(frA i (frA j f))[j]? = some (~~~d2):=by
   by_cases e:i=j
   ·subst e;rw[oq (gj n)];have:=gj n
    rw[n] at o;cases o;exact this
   ·unfold frA;split
    ·rw[Z7 e];exact gj o
    ·exact gj o
  obtain⟨u,Y,Z⟩:=g.env j d2 W
  obtain⟨q,a,xs,e1,t,r⟩:=eX K V
  obtain⟨s,b,ys,e2,h,r2⟩:=eX L Z
  subst e1;subst e2;exact⟨_,U,_,Y,q,s,a,b,xs,ys,rfl,t.mono g.sub,h.mono g.sub,k _ H Q (O.trans T) g (kF t h r r2 M)⟩
def uB(g:XC X c Γ){n:Nat}{m e:Expr}{i:It'}{t j:CB}{l:List D}(h:FH (trE n c) c m e=some i)(f:evI Γ i t=some (l,j)):DI X m e t l j/\fe e=false:=by
 unfold FH at h;split at h
 ·rename_i M d;cases h;unfold trZ at d;split at d
  ·refine⟨?_,rfl⟩
   split at d
   ·rename_i q;obtain⟨N,o,d⟩:=Za.mp d
    obtain⟨O,p,d⟩:=Zb.mp d
    subst d;simp only[evI] at f;obtain⟨l1,r,f⟩:=Za.mp f
    obtain⟨l2,s,f⟩:=Za.mp f
    obtain⟨P,u,v⟩:=Za.mp r
    obtain⟨Q,w,A⟩:=Za.mp s
    split at f
    ·rename_i z;cases f;obtain⟨B,C⟩:=cz g.toXE q.1
     subst C;obtain⟨E,F,G,H⟩:=bH g.toXE o
     obtain⟨I,J,K,L⟩:=bH g.toXE p
     cases m<;>first|(cases q.2;done)|skip
     exact DI.zv B (g.blt _ (by decide +kernel)) E (Loc.vis F) G H I (Loc.vis J) K L u w v A z
    ·cases f
   ·cases d
  ·cases d
 ·exact oo g h f
def iV{s:Stmt}{d:S}{e:CB}{o:Out}(h:some S.never=some d)(f:ex Γ d e=some o):DS X s e o:=by
 cases h;simp only[ex] at f;cases f
def uC(d:XC X c Γ){n:Nat}{x:Str}{F p:Pos}{e:Expr}{G:S}{l:CB}{o:Out}(h:kK n c x e=some G)(g:ex Γ G l=some o):DS X (.Assign [.Name x F] e p) l o:=by
 unfold kK at h;split at h
 ·rename_i H I m pos;split at h
  case isFalse=>cases h
  rename_i J;obtain⟨i,A,h⟩:=Za.mp h
  obtain⟨K,j,h⟩:=Zb.mp h
  subst h;simp only[ex] at g;obtain⟨w,t,g⟩:=Za.mp g
  obtain⟨B,C,g⟩:=Zb.mp g
  subst g;obtain⟨q,r⟩:=iU C
  subst r;obtain⟨u,v,L,M⟩:=bH d.toXE A
  have z:i<l.length:=by
   have:(after w l).length=l.length:=by unfold after;split;rfl;unfold frz;rw[Zc]
   rw[this] at q;exact q
  cases s:LP X.env.scope x F pos m with
  |false=>exact DS.asg (by rw[d.hN];exact d.nd) u v (.inl (d.fn _)) (by rw[oi d.kind,s]) z ((cm d.toXE n).1 _ _ _ _ j t)
  |true=>
   cases n with
   |zero=>simp only[trE] at j;cases j
   |succ n=>
    simp only[trE] at j;change trLC _ _ _ _ _ _ I=_ at j
    unfold trLC at j;split at j
    ·obtain⟨items,N,f,fr,r,O,P,hS,Q,R,T⟩:=oh d.toXE (λh g=>dX d h g) (λD E h=>(dU n D E h).1) (λD E h=>(dU n D E h).2.2.2.1) j t
     subst r;exact DS.asgComp (by rw[d.hN];exact d.nd) u v (.inl (d.fn _)) z (by rw[oi d.kind,s]) d.calm O P hS Q R T
    ·cases j
 ·split at h
  ·rename_i U;obtain⟨i,A,h⟩:=Za.mp h
   obtain⟨K,j,h⟩:=Zb.mp h
   subst h;simp only[ex] at g;obtain⟨w,t,g⟩:=Za.mp g
   obtain⟨B,C,g⟩:=Zb.mp g
   subst g;obtain⟨q,r⟩:=iU C
   subst r;obtain⟨u,v,L,M⟩:=bH d.toXE A
   have z:i<l.length:=by
    have:(after w l).length=l.length:=by unfold after;split;rfl;unfold frz;rw[Zc]
    rw[this] at q;exact q
   exact DS.asg (by rw[d.hN];exact d.nd) u v (.inl (d.fn _)) (dW U) z ((cm d.toXE n).1 _ _ _ _ j t)
  ·cases h
def uD(f:XC X c Γ){n:Nat}{r:List Expr}{k:Nat}{tp g:Pos}{e:Expr}{s:S}{t:CB}{o:Out}(h:kL n c r e=some s)(d:ex Γ s t=some o):DS X (.Assign [.Tuple r k tp] e g) t o:=by
 unfold kL at h;split at h
 ·split at h
  ·rename_i q;obtain⟨A,B,u,v,C,D,E,F⟩:=q
   obtain⟨i,l,h⟩:=Za.mp h
   obtain⟨j,G,h⟩:=Za.mp h
   obtain⟨R,H,h⟩:=Za.mp h
   obtain⟨T,I,h⟩:=Zb.mp h
   subst h;simp only[ex] at d;obtain⟨x,J,d⟩:=Za.mp d
   obtain⟨y,K,d⟩:=Za.mp d
   split at d
   ·rename_i z;cases d;obtain⟨L,U,V,W⟩:=bH f.toXE l
    obtain⟨M,Y,Z,b4⟩:=bH f.toXE G
    have m:=E;have p:=F;rw[<-f.hsc] at m p;exact DS.par f.calm (by rw[f.hN];exact f.nd) L M z.2.2.1 m p (DA.cons (dX f H J) (DA.cons (dX f I K) DA.nil v) u) z.2.2.2.1 z.2.2.2.2 z.1 z.2.1 (uA f.kind m p A B u v C D)
   ·cases d
  ·cases h
 ·split at h
  ·rename_i q;obtain⟨is,l,h⟩:=Za.mp h
   obtain⟨e',N,h⟩:=Zb.mp h
   subst h;simp only[ex] at d;obtain⟨w,O,d⟩:=Za.mp d
   obtain⟨P,Q,d⟩:=Zb.mp d
   subst d;exact DS.asgT ((cm f.toXE n).1 _ _ _ _ N O) (om f (by show(slots c _).map Tg.tup=_;rw[l];rfl) Q) (by unfold swapsWithSole;exact dW q.1) (ux q.2) rfl
  ·cases h
def HR(g:XC X c Γ){n:Nat}{t:Expr}{p:Pos}{e:Expr}{q:S}{r:CB}{o:Out}(h:kM n c e t=some q)(f:ex Γ q r=some o):DS X (.Assign [t] e p) r o:=by
 unfold kM at h;split at h
 ·exact uC g h f
 ·split at h
  ·rename_i s;obtain⟨i,u,h⟩:=Za.mp h
   obtain⟨J,v,h⟩:=Za.mp h
   obtain⟨K,z,h⟩:=Zb.mp h
   subst h;simp only[ex] at f;obtain⟨w,A,f⟩:=Za.mp f
   obtain⟨j,B,f⟩:=Za.mp f
   obtain⟨C,D,E,F⟩:=bH g.toXE u
   split at f
   ·rename_i l d G _;split at f
    ·rename_i H;obtain⟨m,I,f⟩:=Zb.mp f
     subst f;exact DS.seti C (Loc.vis D) E F G ((cm g.toXE n).1 _ _ _ _ z A) (Fh g v B) H I s.2 (uz s.1) uy
    ·cases f
   ·cases f
  ·cases h
 ·exact uD g h f
 ·exact iV h f
def FX(j:XC X c Γ){n:Nat}{g:Pos}{e:Expr}{m:S}{p:CB}{o:Out}(h:kN n c e=some m)(f:ex Γ m p=some o):DS X (.Return (some e) g) p o:=by
 unfold kN at h;split at h
 ·obtain⟨i,u,h⟩:=Zb.mp h
  subst h;simp only[ex] at f;obtain⟨q,r,s,t⟩:=bH j.toXE u
  split at f
  ·rename_i l e;cases f;exact DS.retOwn q (Loc.vis r) s t e
  ·rename_i d e;cases f;refine DS.ret (DF.var q (Loc.vis r) s t ?_).de;unfold view;rw[Zm,e];rfl
  ·cases f
 ·obtain⟨A,v,h⟩:=Zb.mp h
  subst h;simp only[ex] at f;obtain⟨w,z,f⟩:=Zb.mp f
  subst f;exact DS.ret ((cm j.toXE n).1 _ _ _ _ v z)
def Lx(j:XC X c Γ){n:Nat}{g:Pos}{e:Expr}{q:S}{r:CB}{o:Out}(h:trX n c e=some q)(f:ex Γ q r=some o):DS X (.Expr e g) r o:=by
 unfold trX at h;split at h
 case h_2=>exact iV h f
 rename_i p t;obtain⟨x,m,J,K,L⟩:=p
 obtain⟨M,rfl⟩:=Ly t
 dsimp only at h;unfold trX2 at h;split at h
 ·split at h
  ·rename_i u;obtain⟨i,v,h⟩:=Za.mp h
   obtain⟨N,z,h⟩:=Zb.mp h
   subst h;simp only[ex] at f;obtain⟨w,A,f⟩:=Za.mp f
   obtain⟨B,C,D,E⟩:=bH j.toXE v
   split at f
   ·rename_i l d F;split at f
    ·rename_i s;cases f;obtain⟨G,H,I⟩:=u
     subst G;exact DS.app B (Loc.vis C) D E F ((cm j.toXE n).1 _ _ _ _ z A) I s.1 s.2 H
    ·cases f
   ·cases f
  ·cases h;simp only[ex] at f;cases f
 ·exact iV h f
def kQ(p:XC X c Γ):∀n,(∀s t j o,trS n c s=some t->ex Γ t j=some o->DS X s j o)/\(∀l z j o,trSs n c l=some z->exs Γ z j=some o->DSs X l j o):=by
 intro n;induction n with
 |zero=>exact⟨λe H j w h=>by(simp only[trS] at h;cases h),λe H j w h=>by(simp only[trSs] at h;cases h)⟩
 |succ n I=>
  obtain⟨D,q⟩:=I
  refine⟨λs t j o h f=>?_,λl z j o h f=>?_⟩
  ·simp only[trS] at h;unfold trS1 at h;split at h
   ·exact HR p h f
   ·exact FX p h f
   ·-- if
    obtain⟨J,u,h⟩:=Za.mp h
    obtain⟨S,K,h⟩:=Za.mp h
    obtain⟨E,r,h⟩:=Zb.mp h
    subst h;simp only[ex] at f;obtain⟨k,v,f⟩:=Za.mp f
    cases k with
    |true=>
     rw[if_pos rfl] at f;exact DS.ifT ((iT p.toXE n).1 _ _ _ _ u v) (q _ _ _ _ K f)
    |false=>
     rw[if_neg Z0] at f;exact DS.ifF ((iT p.toXE n).1 _ _ _ _ u v) (q _ _ _ _ r f)
   ·-- while
    obtain⟨J,u,h⟩:=Za.mp h
    obtain⟨E,r,h⟩:=Zb.mp h
    subst h;simp only[ex] at f;obtain⟨m,L⟩:=nV f
    exact DS.while_ p.po (λj k v=>(iT p.toXE n).1 _ _ _ _ u v) (λj o A=>q _ _ _ _ r A) L
   ·-- for
    obtain⟨g,M,h⟩:=Za.mp h
    obtain⟨i,N,h⟩:=Za.mp h
    obtain⟨E,r,h⟩:=Zb.mp h
    subst h;simp only[ex] at f;obtain⟨⟨l,B⟩,C,f⟩:=Za.mp f
    obtain⟨O,P⟩:=uB p N C
    exact DS.for_ p.po p.calm O (λd j Q R=>om p M R) (λj o A=>q _ _ _ _ r A) f (kJ P)
   ·exact Lx p h f
   ·exact iV h f
  ·cases l with
   |nil=>
    simp only[trSs] at h;cases h;simp only[exs] at f;cases f;exact DSs.nil
   |cons s l=>
    simp only[trSs] at h;obtain⟨t,F,h⟩:=Za.mp h
    obtain⟨l2,C,h⟩:=Zb.mp h
    subst h;simp only[exs] at f;obtain⟨o1,G,f⟩:=Za.mp f
    cases o1 with
    |nx B=>exact DSs.next (D _ _ _ _ F G) (q _ _ _ _ C f)
    |rt w=>cases f;exact DSs.ret (D _ _ _ _ F G)
end
open PySem L2 PyProof.Rows
def GFn(P:Program)(w:World)(K:vE)(e:Str->Option Value)(d:Heap)(k:Nat)(x:Str)(n:Nat)(g:∅):Prop:=
 ∃(a:Addr) (f:FuncData) (ps:List Str),FnOk P w K e d C3 k a f ps (Et K n g)/\e x=some (.ref a)/\PySem.W.keepIn K (.ref a)=true/\Binds K f ps []
def GFr(P:Program)(w:World)(K:vE)(e:Str->Option Value)(d:Heap)(k:Nat)(x:Str)(n:Nat)(g:∅):Prop:=
 ∃(a:Addr) (f:FuncData) (ps:List Str),FnOk P w K e d (CX1 P w) k a f ps (spR K n g)/\e x=some (.ref a)/\PySem.W.keepIn K (.ref a)=true/\Binds K f ps []
section
variable{P:Program}{w:World}{K:vE}{mg:Str->Option Value}{base:Heap}
theorem GFn.mono{j k:Nat}{x:Str}{n:Nat}{d:∅}(G:GFn P w K mg base j x n d)(h:j<=k):GFn P w K mg base k x n d:=by
 obtain⟨a,e,ps,F,r⟩:=G
 exact⟨a,e,ps,F.mono h,r⟩
theorem GFn.imp{k:Nat}{x:Str}{n:Nat}{e f:∅}(G:GFn P w K mg base k x n e)(h:∀d w,d.length=n->f d=some w->e d=some w):GFn P w K mg base k x n f:=by
 obtain⟨a,i,ps,F,r⟩:=G
 refine⟨a,i,ps,F.imp λq H Q E ⟨j,d,w,l,m,g,o,p⟩=>⟨j,d,w,l,m,g,h d w g o,p⟩,r⟩
def uE{N:List Str}{d:List V}{i:Nat}{v:V}(h:d[i]? = some v):(L2.start N d)[i]? = some (some v):=by
 unfold L2.start;have e:i<d.length:=(Zi.mp h).1;rw[Yc (by rw[Zc];exact e),Zm,h];rfl
def ot{F:Hp}{H:Hp}{f:List D}{h:List V}{N:List Str}(s:Same F H)(n:DenL K F f h):SR K H F F H (L2.start N h) (f.map (λd=>~~~d)++List.replicate (N.length-f.length) none):=by
 have t:h.length=f.length:=n.length;refine⟨s,Same.refl _,Same.refl _,λa o e=>.inl e,λi d e=>?_,λi l e=>?_,λi j l m a e=>?_,?_⟩
 ·by_cases g:i<f.length
  ·rw[Yc (by rw[Zc];exact g),Zm] at e;cases q:f[i]? with
   |none=>rw[q] at e;cases e
   |some p=>
    rw[q] at e;cases e;obtain⟨v,u,r⟩:=n.get q
    exact⟨v,uE u,r⟩
  ·rw[Ye (by rw[Zc];omega)] at e;rw[Wf] at e;split at e<;>cases e
 ·by_cases g:i<f.length
  ·rw[Yc (by rw[Zc];exact g),Zm] at e;cases q:f[i]? with
   |none=>rw[q] at e;cases e
   |some p=>rw[q] at e;cases e
  ·rw[Ye (by rw[Zc];omega)] at e;rw[Wf] at e;split at e<;>cases e
 ·by_cases g:i<f.length
  ·rw[Yc (by rw[Zc];exact g),Zm] at e;cases q:f[i]? with
   |none=>rw[q] at e;cases e
   |some p=>rw[q] at e;cases e
  ·rw[Ye (by rw[Zc];omega)] at e;rw[Wf] at e;split at e<;>cases e
 ·unfold L2.start;rw[Z8,Z8,Zc,Zc,Yz,Yz,t]
structure Deps(P:Program)(w:World)(K:vE)(mg:Str->Option Value)(base:Heap)(k:Nat)(Γ:Nat->∅)(fns rzs:List (Str×Nat×Nat))(xs:Bool):Prop where
 fns:∀x f n,fns.lookup x=some (f,n)->GFn P w K mg base k x n (Γ f)
 rzs:∀x f n,rzs.lookup x=some (f,n)->GFr P w K mg base k x n (Γ f)
 xf:xs=true->BFacts K
 blt:∀x∈dw,mg x=none
def gk{CX:DR}{d:Str}{sc:Scope}{f:Addr}{N e:List Str}{k:Nat}{g i:List (Str×Nat×Nat)}{r:Bool}{Γ:Nat->∅}{j:Value}{A:Around}{outer:List Env}{s:Shared}{H:Hp}{E:XK}(S:FnScope N e sc)(l:Deps P w K mg base k Γ g i r)
 (m:Room k (A.deeper (envOfC d sc s.heap.objs.size f j))):XC (Dd CX P w K mg base N d sc f j A outer s H E).nox ⟨N,sc,g,i,r⟩ Γ:=by
 refine⟨⟨rfl,rfl,S.nd,rfl,S.kind,λx f n h=>?_,l.xf,m.units,l.blt⟩,λ_=>rfl,PassesOwn.never,λx f n h=>?_,rfl,rfl,rfl⟩
 ·obtain⟨a,o,e,G,p,q,g3⟩:=l.fns x f n h
  exact⟨k,a,o,e,G,m,p,q,g3⟩
 ·obtain⟨a,o,e,G,p,q,g3⟩:=l.rzs x f n h
  exact⟨k,a,o,e,G,m,p,q,g3⟩
def ou{x h:Str}{l:Stmt}{f:Addr}{I:FuncData}{N p:List Str}{k m:Nat}{i j:List (Str×Nat×Nat)}{J:Bool}{Γ:Nat->∅}{d:Ss}(F:Fun K x h l f I)(S:FnScope N p (Ba l))
 (t:trSs m ⟨N,Ba l,i,j,J⟩ (Bc l)=some d)(O:Deps P w K mg base k Γ i j J):
  FnOk P w K mg base C3 (k+1) f I p (Et K p.length (run Γ d N.length)):=by
 refine F.ok S (λR H Q E ⟨u,T,w,L,z,M,g,B⟩=>by rw[z.length];exact M) (λU A outer s H R Q E V ⟨u,T,wv,L,z,M,g,B⟩=>?_);have X:=gk (CX:=C3) (E:=E) (outer:=outer) (H:=H) S O V;unfold run at g;obtain⟨o,Y,g⟩:=Za.mp g
 have hS:=(kQ X m).2 _ _ _ _ t Y;refine⟨_,hS H u,u,ot L z,?_⟩
 cases o with
 |rt w'=>
  cases g;exact λv C G r q=>B v C G r.same r.base r.sub (λa o e=>r.new a o e) q
 |nx Z=>
  cases g;exact λa0 C G s' n=>B _ C G n.same n.base n.sub (λa o e=>n.new a o e) (RW.v Den.non_mk)
def Hn{x e:Str}{i:Stmt}{f:Addr}{l:FuncData}{N j:List Str}{k m n:Nat}{g h:List (Str×Nat×Nat)}{r:Bool}{Γ:Nat->∅}{d:Ss}{s:∅}(F:Fun K x e i f l)(S:FnScope N j (Ba i))(t:Binds K l j [])
 (u:mg x=some (.ref f))(o:trSs m ⟨N,Ba i,g,h,r⟩ (Bc i)=some d)(v:j.length=n)(z:Deps P w K mg base k Γ g h r)
 (p:∀q w,q.length=n->s q=some w->run Γ d N.length q=some w):GFn P w K mg base (k+1) x n s:=by
 subst v;exact GFn.imp ⟨f,l,j,ou F S o z,u,F.kp,t⟩ p
end
open PySem L2 PyProof.Rows
def At(K:vE)(x:Str)(e:Stmt):Prop:=∃(f:Addr) (i:Value) (j:Option Addr) (kV g l:Value) (m:Option Addr) (d n:Value) (h:Array (Option Value)),
 PySem.W.nsIn K mainGlobals x=some (some (.ref f))/\K.lookup f=some ⟨i,j,.func (PySem.W.fnOf x x (bT e) (Bc e) (Ba e) .none kV g l m d n),h⟩/\PySem.W.codeIn K d x=true/\PySem.W.keepIn K (.ref f)=true
def at_mk{K:vE}{x:Str}{h:Stmt}{f:Addr}{i:Value}{j:Option Addr}{kV e m:Value}{n:Option Addr}{d ct:Value}{g:Array (Option Value)}(a:PySem.W.nsIn K mainGlobals x=some (some (.ref f)))
 (l:K.lookup f=some ⟨i,j,.func (PySem.W.fnOf x x (bT h) (Bc h) (Ba h) .none kV e m n d ct),g⟩)(c:PySem.W.codeIn K d x=true)(k:PySem.W.keepIn K (.ref f)=true):At K x h:=⟨f,i,j,kV,e,m,n,d,ct,g,a,l,c,k⟩
def CK(x:Str)(d:Stmt)(h:List Str):Prop:=∀(kV e i:Value) (j:Option Addr) (f l:Value) (g:List Value),g.length=h.length->bindArgs (PySem.W.fnOf x x (bT d) (Bc d) (Ba d) .none kV e i j f l) ⟨g,[]⟩=pure (h.zip g)
def Calls(P:Program)(w:World)(K:vE)(g:Str->Option Value)(d:Heap)(k:Nat)(Γ:Nat->∅)(e:List (Str×Nat×Nat)):Prop:=∀x f n,e.lookup x=some (f,n)->GFn P w K g d k x n (Γ f)
def CallsR(P:Program)(w:World)(K:vE)(g:Str->Option Value)(d:Heap)(k:Nat)(Γ:Nat->∅)(e:List (Str×Nat×Nat)):Prop:=∀x f n,e.lookup x=some (f,n)->GFr P w K g d k x n (Γ f)
section
variable{P:Program}{w:World}{K:vE}{mg:Str->Option Value}{base:Heap}{Γ:Nat->∅}
def Calls.nil{k:Nat}:Calls P w K mg base k Γ []:=λx f n h=>by cases h
def Calls.cons{j k f n:Nat}{x:Str}{l:List (Str×Nat×Nat)}(h:GFn P w K mg base j x n (Γ f))(d:j<=k)(r:Calls P w K mg base k Γ l):Calls P w K mg base k Γ ((x,f,n)::l):=λy g m e=>by
 rw[Qj] at e;cases q:(y == x) with
 |true=>
  rw[q] at e;cases e;have:=eq_of_beq q
  subst this;exact h.mono d
 |false=>rw[q] at e;exact r y g m e
def CallsR.nil{k:Nat}:CallsR P w K mg base k Γ []:=λx f n h=>by cases h
def Bn{h:Heap}{x:Str}{e:Stmt}{N j:List Str}{k m n:Nat}{g i:List (Str×Nat×Nat)}{r:Bool}{d:Ss}{s:∅}(A:At K x e)(X:K.In h)(G:h.Ns mainGlobals mg)(S:FnScope N j (Ba e))(B:CK x e j)
 (o:trSs m ⟨N,Ba e,g,i,r⟩ (Bc e)=some d)(t:j.length=n)(u:Deps P w K mg base k Γ g i r)
 (p:∀q w,q.length=n->s q=some w->run Γ d N.length q=some w):GFn P w K mg base (k+1) x n s:=by
 obtain⟨f,H,I,kV,v,J,L,z,M,C,a,l,c,E⟩:=A
 have F:=iy (st:=e) l c E;exact Hn F S (F.binds B) (Jy X G a) o t u p
def GZ{h:Heap}{x p:Str}{g:Stmt}{N:List Str}{k m:Nat}{t:Addr}{i j:List (Str×Nat×Nat)}{u:Bool}{d:Ss}(A:At K x g)(X:K.In h)(G:h.Ns mainGlobals mg)(n:mg x=some (.ref t))(S:FnScope N [p] (Ba g))(B:CK x g [p])
 (o:trSs m ⟨N,Ba g,i,j,u⟩ (Bc g)=some d)(C:∀base:Heap,K.In base->base.Ns mainGlobals mg->Deps P w K mg base k Γ i j u):
  ∃z:FuncData,(∀(s:Shared) (v:Value),BindsTo s z ⟨[v],[]⟩ [(p,v)])/\∀base:Heap,K.In base->base.Ns mainGlobals mg->FnOk P w K mg base C3 (k+1) t z [p] (Et K 1 (run Γ d N.length)):=by
 obtain⟨f,O,Q,kV,q,D,E,r,H,I,a,l,c,J⟩:=A
 have e:=n.symm.trans (Jy X G a);cases e;have F:=iy (st:=g) l c J;exact⟨_,λs v=>.of_eq (B kV q D E r H [v] rfl),λbase L M=>ou F S o (C base L M)⟩
def uF{n:Nat}{f:∅}(e:∀d:List Int,d.length<=n->f [.lst (d.map D.int)]=some (.val (.bl true)))(H:Hp)(a:Addr)(d:List Int)(g:d.length<=n)(hS:SqL K H a (d.map V.int)):
  Et K 1 f [.ref a] H (λv _=>v=.bl true) λ_ _ _=>False:=
 ⟨H,[.lst (d.map D.int)],.val (.bl true),Same.refl _,DenL.cons (Den.lst_mk hS (DenL.ints d)) DenL.nil,rfl,e d g,λv i h _ _ _ _ q=>(show Den K h (.bl true) v from q).bl⟩
def uG{h:Heap}(X:K.In h)(G:h.Ns mainGlobals mg)(d:∀x∈dw,PySem.W.nsIn K mainGlobals x=some none):∀x∈dw,mg x=none:=λx e=>PySem.W.mg_none_of X G (d x e)
end
end DL
namespace DL
def Em(f:D->D->Option W):Option D->Option D->Option W
 |some x,some y=>f x y
 |_,_=>none
def un1(f:D->Option W):Option D->Option W
 |some x=>f x
 |_=>none
def HU:Option Bool->Option W->Option W
 |some true,y=>y
 |some false,_=>some (.val (.bl false))
 |none,_=>none
def LZ:Option Bool->Option W->Option W
 |some true,_=>some (.val (.bl true))
 |some false,y=>y
 |none,_=>none
def EG{d:Type}:Option Bool->Option d->Option d->Option d
 |some true,x,_=>x
 |some false,_,y=>y
 |none,_,_=>none
def appL(f:∅):Option (List D)->Option W
 |some l=>f l
 |none=>none
def Fq:Option D->Option (List D)->Option (List D)
 |some d,some l=>some (d::l)
 |_,_=>none
def slO:Option D->Option (Option Int)->Option (Option Int)->Option W
 |some x,some i,some j=>Lr x i j
 |_,_,_=>none
def cmpW(c:Cm)(x y:D):Option W:=(CI c x y).map λk=>.val (.bl k)
def ixW(x y:D):Option W:=(ixD x y).map W.val
def negW:D->Option W
 |.int i=>some (.val (.int (-i)))
 |_=>none
def JI:Option Bool->Option W
 |some k=>some (.val (.bl (!k)))
 |none=>none
def tupW(d:List D):Option W:=if d.length<=PySem.sizeLine then some (.val (.tup d)) else none
def lstW(d:List D):Option W:=if d.length<=PySem.sizeLine then some (.new d) else none
def D5(t:Ty)(d:D):Option W:=(eY t d).map λk=>.val (.bl k)
def JR(e:List PySem.Str)(d:D):Option W:=(isX e d).map λk=>.val (.bl k)
def isiW_i{t:Ty}{i:Int}:D5 t (.int i)=some (.val (.bl (isTy t (.int i)))):=rfl
def isiW_b{t:Ty}{i:Bool}:D5 t (.bl i)=some (.val (.bl (isTy t (.bl i)))):=rfl
def isiW_t{t:Ty}{l:List D}:D5 t (.tup l)=some (.val (.bl (isTy t (.tup l)))):=rfl
def isiW_l{t:Ty}{l:List D}:D5 t (.lst l)=some (.val (.bl (isTy t (.lst l)))):=rfl
def isiW_n{t:Ty}:D5 t .non=some (.val (.bl (isTy t .non))):=rfl
def isxW_n{d:List PySem.Str}:JR d .non=some (.val (.bl false)):=rfl
def zipO(x y:Option D):Option (List D):=(x.bind sqD).bind λl=>(y.bind sqD).bind λm=>if l.length=m.length then some (CN l m) else none
def Ht(j:Nat)(o:Option D):Option W:=(o.bind (KD j)).map W.val
def fldO_s{a:PySem.Addr}{l:List D}{j:Nat}:Ht j (some (.obj a l))=l[j]?.map W.val:=rfl
section
variable{Γ:Nat->∅}{ρ:CF}
def evd(Γ:Nat->∅)(e:E)(ρ:CF):Option D:=(ev Γ e ρ).map W.d
def evb(Γ:Nat->∅)(e:E)(ρ:CF):Option Bool:=(evd Γ e ρ).bind bp
def ev_var{i:Nat}:ev Γ (.var i) ρ=(varD ρ i).map W.val:=by simp only[ev]
def ev_int{i:Int}:ev Γ (.int i) ρ=some (.val (.int i)):=by simp only[ev]
def ev_bl{i:Bool}:ev Γ (.bl i) ρ=some (.val (.bl i)):=by simp only[ev]
def ev_non:ev Γ .non ρ=some (.val .non):=by simp only[ev]
def ev_bin{o:Op}{a b:E}:ev Γ (.bin o a b) ρ=Em (Df o) (evd Γ a ρ) (evd Γ b ρ):=by
 simp only[ev,evd];cases(ev Γ a ρ)<;>cases(ev Γ b ρ)<;>rfl
def ev_neg{a:E}:ev Γ (.neg a) ρ=un1 negW (evd Γ a ρ):=by
 simp only[ev,evd];cases(ev Γ a ρ) with
 |none=>rfl
 |some w=>simp only[Wy,Zv,un1];cases w.d<;>rfl
def ev_cmp{o:Cm}{a b:E}:ev Γ (.cmp o a b) ρ=Em (cmpW o) (evd Γ a ρ) (evd Γ b ρ):=by
 simp only[ev,evd];cases(ev Γ a ρ)<;>cases(ev Γ b ρ)<;>rfl
def ev_and{a b:E}:ev Γ (.and a b) ρ=HU (evb Γ a ρ) (ev Γ b ρ):=by
 simp only[ev,evd,evb];cases(Option.map W.d (ev Γ a ρ)).bind bp with
 |none=>rfl
 |some k=>cases k<;>rfl
def ev_or{a b:E}:ev Γ (.or a b) ρ=LZ (evb Γ a ρ) (ev Γ b ρ):=by
 simp only[ev,evd,evb];cases(Option.map W.d (ev Γ a ρ)).bind bp with
 |none=>rfl
 |some k=>cases k<;>rfl
def ev_not{a:E}:ev Γ (.not a) ρ=JI (evb Γ a ρ):=by
 simp only[ev,evd,evb];cases(Option.map W.d (ev Γ a ρ)).bind bp<;>rfl
def ev_tup{l:Es}:ev Γ (.tup l) ρ=appL tupW (evs Γ l ρ):=by
 simp only[ev];cases(evs Γ l ρ)<;>rfl
def ev_lst{l:Es}:ev Γ (.lst l) ρ=appL lstW (evs Γ l ρ):=by
 simp only[ev];cases(evs Γ l ρ)<;>rfl
def ev_ix{a b:E}:ev Γ (.ix a b) ρ=Em ixW (evd Γ a ρ) (evd Γ b ρ):=by
 simp only[ev,evd];cases(ev Γ a ρ)<;>cases(ev Γ b ρ)<;>rfl
def ev_sl{a:E}{d e:EO}:ev Γ (.sl a d e) ρ=slO (evd Γ a ρ) (evo Γ d ρ) (evo Γ e ρ):=by
 simp only[ev,evd];cases(ev Γ a ρ)<;>cases(evo Γ d ρ)<;>cases(evo Γ e ρ)<;>rfl
def uH{f:Nat}{l:Es}:ev Γ (.call f l) ρ=appL (Γ f) (evs Γ l ρ):=by
 simp only[ev];cases(evs Γ l ρ)<;>rfl
def ev_fld{a:E}{j:Nat}:ev Γ (.fld a j) ρ=Ht j (evd Γ a ρ):=by
 simp only[ev,evd,Ht]
def ev_ife{c a b:E}:ev Γ (.ife c a b) ρ=EG (evb Γ c ρ) (ev Γ a ρ) (ev Γ b ρ):=by
 simp only[ev,evd,evb];cases(Option.map W.d (ev Γ c ρ)).bind bp with
 |none=>rfl
 |some k=>cases k<;>rfl
def ev_idx{a b:E}:ev Γ (.idx a b) ρ=Em EH (evd Γ a ρ) (evd Γ b ρ):=by
 simp only[ev,evd];cases(ev Γ a ρ)<;>cases(ev Γ b ρ)<;>rfl
def ev_bi{f:Bi}{l:Es}:ev Γ (.bi f l) ρ=appL (biW f) (evs Γ l ρ):=by
 simp only[ev];cases(evs Γ l ρ)<;>rfl
def ev_isi{a:E}{t:Ty}:ev Γ (.isi a t) ρ=un1 (D5 t) (evd Γ a ρ):=by
 simp only[ev,evd];cases(ev Γ a ρ)<;>rfl
def ev_isx{a:E}{d:List PySem.Str}:ev Γ (.isx a d) ρ=un1 (JR d) (evd Γ a ρ):=by
 simp only[ev,evd];cases(ev Γ a ρ)<;>rfl
def ox:evs Γ .nil ρ=some []:=by simp only[evs]
def oy{e:E}{l:Es}:evs Γ (.cons e l) ρ=Fq (evd Γ e ρ) (evs Γ l ρ):=by
 simp only[evs,evd];cases(ev Γ e ρ)<;>cases(evs Γ l ρ)<;>rfl
def uI:evo Γ .non ρ=some none:=by simp only[evo]
def uJ{e:E}:evo Γ (.som e) ρ=((evd Γ e ρ).bind CS).map some:=by simp only[evo,evd]
end
def kR(Γ:Nat->∅):Option Out->Ss->Option Out
 |some (.nx d),l=>exs Γ l d
 |some (.rt w),_=>some (.rt w)
 |none,_=>none
def Ld(d:CB)(i:Nat):Option W->Option Out
 |some w=>(C8 (after w d) i w.b).map Out.nx
 |none=>none
def Io(e:CB)(f:List Nat):Option W->Option Out
 |some w=>(Bo (.tup f) w.d (after w e)).map Out.nx
 |none=>none
noncomputable def I0(d:CB)(i j:Nat):Option D->Option D->Option Out
 |some x,some y=>if lf x=true/\lf y=true/\i≠j/\i<d.length/\j<d.length then some (.nx ((d.set i (~~~x)).set j (~~~y))) else none
 |_,_=>none
def IP:Option W->Option Out
 |some w=>some (.rt w)
 |none=>none
def kS:Option (Option B)->Option Out
 |some (some (.ow l))=>some (.rt (.new l))
 |some (~~~d)=>some (.rt (.val d))
 |_=>none
def JZ(d:D->CB->Option CB)(e:CB->Option Out):Option (List D×CB)->Option Out
 |some (l,f)=>forN d e l f
 |none=>none
noncomputable def Ir(Γ:Nat->∅)(f g i j:Nat)(d:CB):Option (List D)->Option Out
 |some e=>match Γ g e with
  |some (.val (.exc z))=>if z∈km/\i≠j/\i<d.length then some (.nx (((frz d).set j none).set i (~~~.exc z))) else none
  |_=>(Γ f e).map λ_=>.nx (frz d)
 |none=>none
def Dw:Option Out->Option W
 |some (.rt w)=>some w
 |some (.nx _)=>some (.val .non)
 |none=>none
def EB(e:CB):Option W->Option (List D×CB)
 |some w=>match w.d with
  |.lst l=>some (l,after w e)
  |.tup l=>some (l,after w e)
  |_=>none
 |none=>none
def E3(d:CB):Option D->Option (List D×CB)
 |some (.int n)=>if -(2^62)<=n/\n<2^62 then some (Bv 0 n.toNat,d) else none
 |_=>none
def Fl(d:CB):Option D->Option (List D×CB)
 |some (.lst l)=>some (bK l,frz d)
 |_=>none
section
variable{Γ:Nat->∅}{ρ:CB}
def uK:exs Γ .nil ρ=some (.nx ρ):=by simp only[exs]
def uL{s:S}{l:Ss}:exs Γ (.cons s l) ρ=kR Γ (ex Γ s ρ) l:=by
 simp only[exs];cases ex Γ s ρ with
 |none=>rfl
 |some o=>cases o<;>rfl
def ex_asg{i:Nat}{e:E}:ex Γ (.asg i e) ρ=Ld ρ i (ev Γ e (view ρ)):=by
 simp only[ex];cases ev Γ e (view ρ)<;>rfl
def ex_unp{d:List Nat}{e:E}:ex Γ (.unp d e) ρ=Io ρ d (ev Γ e (view ρ)):=by
 simp only[ex];cases ev Γ e (view ρ)<;>rfl
def ex_par{i j:Nat}{a b:E}:ex Γ (.par i j a b) ρ=I0 ρ i j (evd Γ a (view ρ)) (evd Γ b (view ρ)):=by
 simp only[ex,evd];cases ev Γ a (view ρ)<;>cases ev Γ b (view ρ)<;>rfl
def ex_ret{e:E}:ex Γ (.ret e) ρ=IP (ev Γ e (view ρ)):=by
 simp only[ex];cases ev Γ e (view ρ)<;>rfl
def uM{i:Nat}:ex Γ (.retV i) ρ=kS ρ[i]?:=by
 simp only[ex];cases ρ[i]? with
 |none=>rfl
 |some o=>cases o with
  |none=>rfl
  |some b=>cases b<;>rfl
def ex_iff{c:E}{a b:Ss}:ex Γ (.iff c a b) ρ=EG (evb Γ c (view ρ)) (exs Γ a ρ) (exs Γ b ρ):=by
 simp only[ex,EI,evb,evd];cases(Option.map W.d (ev Γ c (view ρ))).bind bp with
 |none=>rfl
 |some k=>cases k<;>rfl
def ex_whl{c:E}{b:Ss}:ex Γ (.whl c b) ρ=e7 (EI Γ c) (exs Γ b) ρ:=by simp only[ex]
def ex_frr{t:Tg}{d:It'}{b:Ss}:ex Γ (.frr t d b) ρ=JZ (Bo t) (exs Γ b) (evI Γ d ρ):=by
 simp only[ex];cases evI Γ d ρ<;>rfl
def uN{f g:Nat}{l:Es}{i j:Nat}:ex Γ (.tryC f g l i j) ρ=Ir Γ f g i j ρ (evs Γ l (view ρ)):=by
 simp only[ex];cases evs Γ l (view ρ) with
 |none=>rfl
 |some h=>
  rw[Zv];unfold Ir;cases e:Γ g h with
  |none=>simp only[e]
  |some w=>cases w with
   |new l=>simp only[e]
   |val d=>cases d<;>simp only[e]
def evB_eq{c:E}:EI Γ c ρ=evb Γ c (view ρ):=rfl
def uO{e:E}:evI Γ (.seq e) ρ=EB ρ (ev Γ e (view ρ)):=by
 simp only[evI];cases ev Γ e (view ρ)<;>rfl
def uP{i:Nat}:evI Γ (.seqV i) ρ=seqB ρ ρ[i]?:=by simp only[evI]
def seqB_l{l:List D}:seqB ρ (some (~~~.lst l))=some (l,ρ):=rfl
def seqB_t{l:List D}:seqB ρ (some (~~~.tup l))=some (l,ρ):=rfl
def seqB_o{l:List D}:seqB ρ (some (some (.ow l)))=some (l,frz ρ):=rfl
def uQ{e:E}:evI Γ (.range1 e) ρ=E3 ρ (evd Γ e (view ρ)):=by
 simp only[evI,evd];cases ev Γ e (view ρ) with
 |none=>rfl
 |some w=>simp only[Wy,Zv];cases w.d<;>rfl
def oz{i j:Nat}:evI Γ (.zipV i j) ρ=(zipO (DV ρ[i]?) (DV ρ[j]?)).map λl=>(l,frA i (frA j ρ)):=by
 simp only[evI,zipO];cases(DV ρ[i]?).bind sqD with
 |none=>rfl
 |some l=>
  simp only[Zv];cases(DV ρ[j]?).bind sqD with
  |none=>rfl
  |some m=>simp only[Zv];split<;>rfl
def uR{a b:E}:evI Γ (.zip a b) ρ=(zipO (evd Γ a (view ρ)) (evd Γ b (view ρ))).map λl=>(l,frz ρ):=by
 simp only[evI,evd,zipO];cases((ev Γ a (view ρ)).map W.d).bind sqD with
 |none=>rfl
 |some l=>
  cases((ev Γ b (view ρ)).map W.d).bind sqD with
  |none=>rfl
  |some m=>
   simp only[Zv];by_cases e:l.length=m.length
   ·rw[if_pos e,if_pos e];rfl
   ·rw[if_neg e,if_neg e];rfl
def uS{e:E}:evI Γ (.enum e) ρ=Fl ρ (evd Γ e (view ρ)):=by
 simp only[evI,evd];cases ev Γ e (view ρ) with
 |none=>rfl
 |some w=>simp only[Wy,Zv];cases w.d<;>rfl
def run_eq{b:Ss}{n:Nat}{e:List D}:run Γ b n e=Dw (exs Γ b (e.map (λd=>~~~d)++List.replicate (n-e.length) none)):=by
 unfold run;cases exs Γ b (e.map (λd=>~~~d)++List.replicate (n-e.length) none) with
 |none=>rfl
 |some o=>cases o<;>rfl
end
section
variable{Γ:Nat->∅}{ρ:CB}
def bin2_s{f:D->D->Option W}{x y:D}:Em f (some x) (some y)=f x y:=rfl
def un1_s{f:D->Option W}{x:D}:un1 f (some x)=f x:=rfl
def andO_t{y:Option W}:HU (some true) y=y:=rfl
def andO_f{y:Option W}:HU (some false) y=some (.val (.bl false)):=rfl
def orO_t{y:Option W}:LZ (some true) y=some (.val (.bl true)):=rfl
def orO_f{y:Option W}:LZ (some false) y=y:=rfl
def iffO_t{d:Type}{x y:Option d}:EG (some true) x y=x:=rfl
def iffO_f{d:Type}{x y:Option d}:EG (some false) x y=y:=rfl
def appL_s{f:∅}{l:List D}:appL f (some l)=f l:=rfl
def uT{d:D}{l:List D}:Fq (some d) (some l)=some (d::l):=rfl
def slO_s{x:D}{i j:Option Int}:slO (some x) (some i) (some j)=Lr x i j:=rfl
def notW_s{k:Bool}:JI (some k)=some (.val (.bl (!k))):=rfl
def uU{l:Ss}:kR Γ (some (.nx ρ)) l=exs Γ l ρ:=rfl
def uV{l:Ss}{w:W}:kR Γ (some (.rt w)) l=some (.rt w):=rfl
def asgO_s{i:Nat}{w:W}:Ld ρ i (some w)=(C8 (after w ρ) i w.b).map Out.nx:=rfl
def unpO_s{e:List Nat}{w:W}:Io ρ e (some w)=(Bo (.tup e) w.d (after w ρ)).map Out.nx:=rfl
def parO_s{i j:Nat}{x y:D}:I0 ρ i j (some x) (some y)=if lf x=true/\lf y=true/\i≠j/\i<ρ.length/\j<ρ.length then some (.nx ((ρ.set i (~~~x)).set j (~~~y))) else none:=rfl
def retO_s{w:W}:IP (some w)=some (.rt w):=rfl
def uW{l:List D}:kS (some (some (.ow l)))=some (.rt (.new l)):=rfl
def uX{d:D}:kS (some (~~~d))=some (.rt (.val d)):=rfl
def forO_s{d:D->CB->Option CB}{e:CB->Option Out}{l:List D}:JZ d e (some (l,ρ))=forN d e l ρ:=rfl
def uY{w:W}:Dw (some (.rt w))=some w:=rfl
def uZ:Dw (some (.nx ρ))=some (.val .non):=rfl
def u3{l:List D}:EB ρ (some (.new l))=some (l,after (.new l) ρ):=rfl
def u4{l:List D}:EB ρ (some (.val (.lst l)))=some (l,after (.val (.lst l)) ρ):=rfl
def u5{l:List D}:EB ρ (some (.val (.tup l)))=some (l,after (.val (.tup l)) ρ):=rfl
def u6{l:List D}:Fl ρ (some (.lst l))=some (bK l,frz ρ):=rfl
def u7{n:Int}:E3 ρ (some (.int n))=if -(2^62)<=n/\n<2^62 then some (Bv 0 n.toNat,ρ) else none:=rfl
def varD_0{o:Option D}{r:CF}:varD (o::r) 0=o:=by cases o<;>rfl
def varD_s{o:Option D}{r:CF}{i:Nat}:varD (o::r) (i+1)=varD r i:=rfl
def u9:view []=[]:=rfl
def va{o:Option B}{r:CB}:view (o::r)=o.map B.d::view r:=rfl
def vb{i:Int}:after (.val (.int i)) ρ=ρ:=rfl
def vc{i:Bool}:after (.val (.bl i)) ρ=ρ:=rfl
def vd:after (.val .non) ρ=ρ:=rfl
def Wd_v{d:D}:(W.val d).d=d:=rfl
def Wd_n{l:List D}:(W.new l).d=.lst l:=rfl
def Wb_v{d:D}:(W.val d).b=.sh d:=rfl
def Wb_n{l:List D}:(W.new l).b=.ow l:=rfl
def Bd_s{d:D}:(B.sh d).d=d:=rfl
def Bd_o{l:List D}:(B.ow l).d=.lst l:=rfl
def vf{k:Bool}:bp (.bl k)=some k:=rfl
def iX{k:Int}:CS (.int k)=some k:=rfl
def setR_0{o:Option B}{b:B}:C8 (o::ρ) 0 b=some (some b::ρ):=rfl
def setR_s{o:Option B}{i:Nat}{b:B}:C8 (o::ρ) (i+1) b=(C8 ρ i b).map (o :: ·):=by
 unfold C8;by_cases h:i<ρ.length
 ·rw[if_pos h,if_pos (by rw[Zw];omega)];rfl
 ·rw[if_neg h,if_neg (by rw[Zw];omega)];rfl
def op_add{a b:Int}:Df .add (.int a) (.int b)=some (.val (.int (a+b))):=rfl
def op_sub{a b:Int}:Df .sub (.int a) (.int b)=some (.val (.int (a-b))):=rfl
def op_mul{a b:Int}:Df .mul (.int a) (.int b)=if Bk a b=true then some (.val (.int (a*b))) else none:=rfl
def op_fdiv{a b:Int}:Df .fdiv (.int a) (.int b)=if br b=true then some (.val (.int (a.fdiv b))) else none:=rfl
def op_mod{a b:Int}:Df .mod (.int a) (.int b)=if b=0 then none else some (.val (.int (a.fmod b))):=rfl
def op_pow{a b:Int}:Df .pow (.int a) (.int b)=if cf a b=true then some (.val (.int (a^b.toNat))) else none:=rfl
end
def sl0:(0<=PySem.sizeLine)=True:=eq_true vA
def sl1:(1<=PySem.sizeLine)=True:=eq_true vA
def sl2:(2<=PySem.sizeLine)=True:=eq_true vA
def sl3:(3<=PySem.sizeLine)=True:=eq_true vA
def sl4:(4<=PySem.sizeLine)=True:=eq_true vA
def sl5:(5<=PySem.sizeLine)=True:=eq_true vA
def sl6:(6<=PySem.sizeLine)=True:=eq_true vA
def sl7:(7<=PySem.sizeLine)=True:=eq_true vA
def sl8:(8<=PySem.sizeLine)=True:=eq_true vA
def sl9:(9<=PySem.sizeLine)=True:=eq_true vA
def at1_0{a:D}:L2.atI [a] 0=some a:=rfl
def at2_0{a b:D}:L2.atI [a,b] 0=some a:=rfl
def at2_1{a b:D}:L2.atI [a,b] 1=some b:=rfl
def at3_0{a b c:D}:L2.atI [a,b,c] 0=some a:=rfl
def at3_1{a b c:D}:L2.atI [a,b,c] 1=some b:=rfl
def at3_2{a b c:D}:L2.atI [a,b,c] 2=some c:=rfl
def at4_0{a b c d:D}:L2.atI [a,b,c,d] 0=some a:=rfl
def at4_1{a b c d:D}:L2.atI [a,b,c,d] 1=some b:=rfl
def at4_2{a b c d:D}:L2.atI [a,b,c,d] 2=some c:=rfl
def at4_3{a b c d:D}:L2.atI [a,b,c,d] 3=some d:=rfl
def at5_0{a b c d e:D}:L2.atI [a,b,c,d,e] 0=some a:=rfl
def at5_1{a b c d e:D}:L2.atI [a,b,c,d,e] 1=some b:=rfl
def at5_2{a b c d e:D}:L2.atI [a,b,c,d,e] 2=some c:=rfl
def at5_3{a b c d e:D}:L2.atI [a,b,c,d,e] 3=some d:=rfl
def at5_4{a b c d e:D}:L2.atI [a,b,c,d,e] 4=some e:=rfl
def at6_0{a b c d e f:D}:L2.atI [a,b,c,d,e,f] 0=some a:=rfl
def at6_1{a b c d e f:D}:L2.atI [a,b,c,d,e,f] 1=some b:=rfl
def at6_2{a b c d e f:D}:L2.atI [a,b,c,d,e,f] 2=some c:=rfl
def at6_3{a b c d e f:D}:L2.atI [a,b,c,d,e,f] 3=some d:=rfl
def at6_4{a b c d e f:D}:L2.atI [a,b,c,d,e,f] 4=some e:=rfl
def at6_5{a b c d e f:D}:L2.atI [a,b,c,d,e,f] 5=some f:=rfl
def bP{a b:Int}(h:0<b):a.fmod b=a%b:=Qy _ vB
def dY{a b:Int}(h:0<b):a.fdiv b=a/b:=Vk _ vB
def dZ{b:Int}(d:0<b)(e:b<1000000000000000000000000000000000000000000000000000000000000000000000000000000000000000000000000000000000000000000000000000000000000000000000000000000):br b=true:=by
 unfold br;rw[Zl];refine⟨decide_eq_true vB,decide_eq_true ?_⟩
 have:(1000000000000000000000000000000000000000000000000000000000000000000000000000000000000000000000000000000000000000000000000000000000000000000000000000000:Nat)<=2^9000:=by decide +kernel
 omega
def Bt{a b:Int}(d : -1000000000000000000000000000000000000000000000000000000000000000000000000000000000000000000000000000000000000000000000000000000000000000000000000000000<a)(e:a<1000000000000000000000000000000000000000000000000000000000000000000000000000000000000000000000000000000000000000000000000000000000000000000000000000000)(f : -1000000000000000000000000000000000000000000000000000000000000000000000000000000000000000000000000000000000000000000000000000000000000000000000000000000<b)(g:b<1000000000000000000000000000000000000000000000000000000000000000000000000000000000000000000000000000000000000000000000000000000000000000000000000000000):Bk a b=true:=by
 unfold Bk;rw[Zl];have:(1000000000000000000000000000000000000000000000000000000000000000000000000000000000000000000000000000000000000000000000000000000000000000000000000000000:Nat)<=2^16000:=by decide +kernel
 exact⟨decide_eq_true vB,decide_eq_true vB⟩
def op_p4:Df .pow (.int 10) (.int 4)=some (.val (.int 10000)):=by
 have h:cf 10 4=true:=by decide +kernel
 have e:((10:Int)^Int.toNat 4)=10000:=by decide +kernel
 rw[op_pow,if_pos h,e]
def op_p5:Df .pow (.int 10) (.int 5)=some (.val (.int 100000)):=by
 have h:cf 10 5=true:=by decide +kernel
 have e:((10:Int)^Int.toNat 5)=100000:=by decide +kernel
 rw[op_pow,if_pos h,e]
def op_p6:Df .pow (.int 10) (.int 6)=some (.val (.int 1000000)):=by
 have h:cf 10 6=true:=by decide +kernel
 have e:((10:Int)^Int.toNat 6)=1000000:=by decide +kernel
 rw[op_pow,if_pos h,e]
def op_p9:Df .pow (.int 10) (.int 9)=some (.val (.int 1000000000)):=by
 have h:cf 10 9=true:=by decide +kernel
 have e:((10:Int)^Int.toNat 9)=1000000000:=by decide +kernel
 rw[op_pow,if_pos h,e]
def op_p10:Df .pow (.int 10) (.int 10)=some (.val (.int 10000000000)):=by
 have h:cf 10 10=true:=by decide +kernel
 have e:((10:Int)^Int.toNat 10)=10000000000:=by decide +kernel
 rw[op_pow,if_pos h,e]
def op_p18:Df .pow (.int 10) (.int 18)=some (.val (.int 1000000000000000000)):=by
 have h:cf 10 18=true:=by decide +kernel
 have e:((10:Int)^Int.toNat 18)=1000000000000000000:=by decide +kernel
 rw[op_pow,if_pos h,e]
def op_p30:Df .pow (.int 10) (.int 30)=some (.val (.int 1000000000000000000000000000000)):=by
 have h:cf 10 30=true:=by decide +kernel
 have e:((10:Int)^Int.toNat 30)=1000000000000000000000000000000:=by decide +kernel
 rw[op_pow,if_pos h,e]
def op_p60:Df .pow (.int 10) (.int 60)=some (.val (.int 1000000000000000000000000000000000000000000000000000000000000)):=by
 have h:cf 10 60=true:=by decide +kernel
 have e:((10:Int)^Int.toNat 60)=1000000000000000000000000000000000000000000000000000000000000:=by decide +kernel
 rw[op_pow,if_pos h,e]
def op_p64:Df .pow (.int 10) (.int 64)=some (.val (.int 10000000000000000000000000000000000000000000000000000000000000000)):=by
 have h:cf 10 64=true:=by decide +kernel
 have e:((10:Int)^Int.toNat 64)=10000000000000000000000000000000000000000000000000000000000000000:=by decide +kernel
 rw[op_pow,if_pos h,e]
def cs0:((0:Nat):Int)=0:=rfl
def cs1:((1:Nat):Int)=1:=rfl
def cs2:((2:Nat):Int)=2:=rfl
def cs3:((3:Nat):Int)=3:=rfl
def cs4:((4:Nat):Int)=4:=rfl
def cs5:((5:Nat):Int)=5:=rfl
def cs6:((6:Nat):Int)=6:=rfl
def cs7:((7:Nat):Int)=7:=rfl
def cs8:((8:Nat):Int)=8:=rfl
def cs9:((9:Nat):Int)=9:=rfl
def cs10:((10:Nat):Int)=10:=rfl
def cs11:((11:Nat):Int)=11:=rfl
def cs12:((12:Nat):Int)=12:=rfl
def ixD_t{l:List D}{i:Int}:ixD (.tup l) (.int i)=L2.atI l i:=rfl
def ixD_l{l:List D}{i:Int}:ixD (.lst l) (.int i)=L2.atI l i:=rfl
def slD_l{l:List D}{i j:Option Int}:Lr (.lst l) i j=some (.new (cutD l i j)):=rfl
def vg{i:Nat}{d:D}{e:CB}:Bo (.name i) d e=C8 e i (.sh d):=rfl
def vh{d:List Nat}{e:List D}{f:CB}:Bo (.tup d) (.tup e) f=eZ d e f:=rfl
noncomputable def EM(e:CB)(i:Nat):Option (Option B)->Option W->Option Out
 |some (some (.ow l)),some (.val d)=>if lf d=true/\l.length<PySem.sizeLine then some (.nx (e.set i (some (.ow (l++[d]))))) else none
 |_,_=>none
noncomputable def fg(e:CB)(i:Nat):Option (Option B)->Option W->Option D->Option Out
 |some (some (.ow l)),some (.val d),some (.int j)=>if lf d=true then(L2.ixN l.length j).map λn=>.nx (e.set i (some (.ow (l.set n d)))) else none
 |_,_,_=>none
section
variable{Γ:Nat->∅}{ρ:CB}
def ex_app{i:Nat}{e:E}:ex Γ (.app i e) ρ=EM ρ i ρ[i]? (ev Γ e (view ρ)):=by
 simp only[ex];cases ev Γ e (view ρ) with
 |none=>
  rw[Ur];unfold EM;cases ρ[i]? with
  |none=>rfl
  |some o=>cases o with
   |none=>rfl
   |some b=>cases b<;>rfl
 |some w=>
  rw[Zv];unfold EM;cases ρ[i]? with
  |none=>rfl
  |some o=>cases o with
   |none=>rfl
   |some b=>cases b<;>cases w<;>rfl
def vi{i:Nat}{k e:E}:ex Γ (.seti i k e) ρ=fg ρ i ρ[i]? (ev Γ e (view ρ)) (evd Γ k (view ρ)):=by
 simp only[ex,evd];cases ev Γ e (view ρ) with
 |none=>
  rw[Ur];unfold fg;cases ρ[i]? with
  |none=>rfl
  |some o=>cases o with
   |none=>rfl
   |some b=>cases b<;>rfl
 |some w=>
  rw[Zv];cases ev Γ k (view ρ) with
  |none=>
   unfold fg;cases ρ[i]? with
   |none=>rfl
   |some o=>cases o with
    |none=>rfl
    |some b=>cases b<;>cases w<;>rfl
  |some u=>
   simp only[Wy,Zv];cases u.d with
   |int j=>
    unfold fg;cases ρ[i]? with
    |none=>rfl
    |some o=>cases o with
     |none=>rfl
     |some b=>cases b<;>cases w<;>rfl
   |_=>
    unfold fg;cases ρ[i]? with
    |none=>rfl
    |some o=>cases o with
     |none=>rfl
     |some b=>cases b<;>cases w<;>rfl
def appO_s{i:Nat}{l:List D}{d:D}:EM ρ i (some (some (.ow l))) (some (.val d))=if lf d=true/\l.length<PySem.sizeLine then some (.nx (ρ.set i (some (.ow (l++[d]))))) else none:=rfl
def vk{i:Nat}{l:List D}{d:D}{j:Int}:fg ρ i (some (some (.ow l))) (some (.val d)) (some (.int j))=if lf d=true then(L2.ixN l.length j).map λn=>.nx (ρ.set i (some (.ow (l.set n d)))) else none:=rfl
end
section
variable{Γ:Nat->∅}{ρ:CF}
def ev_fm{f:Fm}{l:Es}:ev Γ (.fm f l) ρ=appL (fmW f) (evs Γ l ρ):=by
 simp only[ev];cases(evs Γ l ρ)<;>rfl
def ev_lcp{a:E}:ev Γ (.lcp a) ρ=un1 lcpW (evd Γ a ρ):=by
 simp only[ev,evd];cases(ev Γ a ρ)<;>rfl
def d3(Γ:Nat->∅)(f:E)(t:Tg)(g:Nat)(fr:List Nat)(c:EO)(ρ:CF)(d:D):Option (Option D):=
 (ck t d (blkR g fr ρ)).bind λe=>(Ec Γ c e).bind λk=>if k=true then((ev Γ f e).map W.d).map some else some none
def iY{e:E}{t:Tg}{g:It'}{f:Nat}{fr:List Nat}{c:EO}:ev Γ (.comp e t g f fr c) ρ=(evW Γ g ρ).bind λd=>if d.length<=PySem.sizeLine/\Ez f t=true then(bG (d3 Γ e t f fr c ρ) d).map W.new else none:=by
 simp only[ev];rfl
def vl{e:E}:evW Γ (.seq e) ρ=(evd Γ e ρ).bind seqD:=by simp only[evW,evd]
def vm{i:Nat}:evW Γ (.seqV i) ρ=(varD ρ i).bind seqD:=by simp only[evW]
def iZ{a:E}:evW Γ (.range1 a) ρ=((evd Γ a ρ).bind CS).bind λn=>if -(2^62)<=n/\n<2^62 then some (Bv 0 n.toNat) else none:=by simp only[evW,evd]
def vn{e:E}:evW Γ (.rev e) ρ=((evd Γ e ρ).bind Ej).map List.reverse:=by simp only[evW,evd]
def vo{a b:E}:evW Γ (.zip a b) ρ=zipO (evd Γ a ρ) (evd Γ b ρ):=by
 simp only[evW,evd,zipO]
def vp:Ec Γ .non ρ=some true:=by simp only[Ec]
def vq{e:E}:Ec Γ (.som e) ρ=evb Γ e ρ:=by simp only[Ec,evb,evd]
theorem i0{d:Type}{f:D->Option (Option D)}{g:d->D}{h:d->D}:∀{l:List d},(∀x∈l,f (g x)=some (some (h x)))->bG f (l.map g)=some (l.map h)
 |[],_=>rfl
 |x::l,e=>by
  rw[Zy,Zy];unfold bG;rw[e x (.head _)];simp only
  rw[i0 λy i=>e y (.tail _ i)];rfl
def d7{d:Type}{elt:E}{t:Tg}{it:It'}{nt:Nat}{fr:List Nat}{c:EO}{l:List d}{g h:d->D}(e:evW Γ it ρ=some (l.map g))(f:l.length<=PySem.sizeLine)(i:Ez nt t=true)(j:∀x∈l,d3 Γ elt t nt fr c ρ (g x)=some (some (h x))):
  ev Γ (.comp elt t it nt fr c) ρ=some (.new (l.map h)):=by
 rw[iY,e,Zv,if_pos ⟨by rw[Zc];exact f,i⟩,i0 j];rfl
end
def vr{i:Nat}{d:D}{e:CF}:ck (.name i) d e=Dp e i d:=rfl
def vt{d:List Nat}{e:List D}{f:CF}:ck (.tup d) (.tup e) f=dv d e f:=rfl
def setE_0{o:Option D}{d:D}{e:CF}:Dp (o::e) 0 d=some (some d::e):=rfl
def setE_s{o:Option D}{i:Nat}{d:D}{e:CF}:Dp (o::e) (i+1) d=(Dp e i d).map (o :: ·):=by
 unfold Dp;by_cases h:i<e.length
 ·rw[if_pos h,if_pos (by rw[Zw];omega)];rfl
 ·rw[if_neg h,if_neg (by rw[Zw];omega)];rfl
section
def Bb{d e:Type}{o g:Option d}{f i:d->Option e}{y:e}(j:∀x,o=some x->g=some x)(l:∀x y,f x=some y->i x=some y)(h:o.bind f=some y):g.bind i=some y:=by
 obtain⟨x,m,n⟩:=Za.mp h
 rw[j x m,Zv];exact l x y n
def Bl{d e:Type}{o g:Option d}{f:d->e}{y:e}(i:∀x,o=some x->g=some x)(h:o.map f=some y):g.map f=some y:=by
 obtain⟨x,j,l⟩:=Zb.mp h
 rw[i x j,Wy,l]
def fh{d:Type}{c:Prop} [Decidable c]{a b e f:Option d}{y:d}(g:a=some y->e=some y)(i:b=some y->f=some y)(h:(if c then a else b)=some y):(if c then e else f)=some y:=by
 by_cases q:c
 ·rw[if_pos q] at h |-;exact g h
 ·rw[if_neg q] at h |-;exact i h
theorem kU{f g:D->Option (Option D)}(h:∀d y,f d=some y->g d=some y):∀{l:List D}{r:List D},bG f l=some r->bG g l=some r
 |[],_,q=>q
 |d::l,r,q=>by
  unfold bG at q |-;cases e:f d with
  |none=>rw[e] at q;cases q
  |some o=>
   rw[e] at q;rw[h d o e];cases o with
   |none=>exact kU h q
   |some x=>exact Bl (λr=>kU h) q
variable{Γ Γ':Nat->∅}
mutual
theorem Bu(h:∀f n w,Γ f n=some w->Γ' f n=some w):∀(e:E) (g:CF) (w:W),ev Γ e g=some w->ev Γ' e g=some w
 |.var i,g,w,q=>by simp only[ev] at q |-;exact q
 |.int i,g,w,q=>by simp only[ev] at q |-;exact q
 |.bl b,g,w,q=>by simp only[ev] at q |-;exact q
 |.non,g,w,q=>by simp only[ev] at q |-;exact q
 |.bin o a b,g,w,q=>by
  simp only[ev] at q |-;exact Bb (λx=>Bl (Bu h a g)) (λx y=>Bb (λx=>Bl (Bu h b g)) λ_ _ z=>z) q
 |.neg a,g,w,q=>by
  simp only[ev] at q |-;exact Bl (λx=>Bb (λx=>Bl (Bu h a g)) λ_ _ z=>z) q
 |.cmp c a b,g,w,q=>by
  simp only[ev] at q |-;exact Bb (λx=>Bl (Bu h a g)) (λx y=>Bb (λx=>Bl (Bu h b g)) λ_ _ z=>z) q
 |.and a b,g,w,q=>by
  simp only[ev] at q |-;exact Bb (λx=>Bb (λx=>Bl (Bu h a g)) λ_ _ z=>z) (λx y=>fh (Bu h b g y) λz=>z) q
 |.or a b,g,w,q=>by
  simp only[ev] at q |-;exact Bb (λx=>Bb (λx=>Bl (Bu h a g)) λ_ _ z=>z) (λx y=>fh (λz=>z) (Bu h b g y)) q
 |.not a,g,w,q=>by
  simp only[ev] at q |-;exact Bl (λx=>Bb (λx=>Bl (Bu h a g)) λ_ _ z=>z) q
 |.ife c a b,g,w,q=>by
  simp only[ev] at q |-;exact Bb (λx=>Bb (λx=>Bl (Bu h c g)) λ_ _ z=>z) (λx y=>fh (Bu h a g y) (Bu h b g y)) q
 |.tup l,g,w,q=>by
  simp only[ev] at q |-;exact Bb (C5 h l g) (λ_ _ z=>z) q
 |.lst l,g,w,q=>by
  simp only[ev] at q |-;exact Bb (C5 h l g) (λ_ _ z=>z) q
 |.ix a b,g,w,q=>by
  simp only[ev] at q |-;exact Bb (λx=>Bl (Bu h a g)) (λx y=>Bb (λx=>Bl (Bu h b g)) λ_ _ z=>z) q
 |.sl a lo u,g,w,q=>by
  simp only[ev] at q |-;exact Bb (λx=>Bl (Bu h a g)) (λx y=>Bb (Ek h lo g) λ_ _=>Bb (Ek h u g) λ_ _ z=>z) q
 |.call f l,g,w,q=>by
  simp only[ev] at q |-;exact Bb (C5 h l g) (λn y=>h f n y) q
 |.bi f l,g,w,q=>by
  simp only[ev] at q |-;exact Bb (C5 h l g) (λ_ _ z=>z) q
 |.isi a t,g,w,q=>by
  simp only[ev] at q |-;exact Bb (λx=>Bl (Bu h a g)) (λ_ _ z=>z) q
 |.isx a A,g,w,q=>by
  simp only[ev] at q |-;exact Bb (λx=>Bl (Bu h a g)) (λ_ _ z=>z) q
 |.idx a b,g,w,q=>by
  simp only[ev] at q |-;exact Bb (λx=>Bl (Bu h a g)) (λx y=>Bb (λx=>Bl (Bu h b g)) λ_ _ z=>z) q
 |.fld a j,g,w,q=>by
  simp only[ev] at q |-;exact Bl (λx=>Bb (λx=>Bl (Bu h a g)) λ_ _ z=>z) q
 |.fm f l,g,w,q=>by
  simp only[ev] at q |-;exact Bb (C5 h l g) (λ_ _ z=>z) q
 |.lcp a,g,w,q=>by
  simp only[ev] at q |-;exact Bb (λx=>Bl (Bu h a g)) (λ_ _ z=>z) q
 |.comp p t v B fr c,g,w,q=>by
  simp only[ev] at q |-;refine Bb (Hy h v g) (λs y=>fh (Bl λr=>kU λd y=>?_) λz=>z) q;exact Bb (λ_ z=>z) (λm y=>Bb (Hw h c m) λk y=>fh (Bl λx=>Bl (Bu h p m)) λz=>z)
theorem C5(h:∀f g w,Γ f g=some w->Γ' f g=some w):∀(l:Es) (d:CF) (w:List D),evs Γ l d=some w->evs Γ' l d=some w
 |.nil,d,w,q=>by simp only[evs] at q |-;exact q
 |.cons e l,d,w,q=>by
  simp only[evs] at q |-;exact Bb (λx=>Bl (Bu h e d)) (λx y=>Bl (C5 h l d)) q
theorem Ek(h:∀f g w,Γ f g=some w->Γ' f g=some w):∀(l:EO) (d:CF) (w:Option Int),evo Γ l d=some w->evo Γ' l d=some w
 |.non,d,w,q=>by simp only[evo] at q |-;exact q
 |.som e,d,w,q=>by
  simp only[evo] at q |-;exact Bl (λx=>Bb (λx=>Bl (Bu h e d)) λ_ _ z=>z) q
theorem Hw(h:∀f g w,Γ f g=some w->Γ' f g=some w):∀(l:EO) (d:CF) (w:Bool),Ec Γ l d=some w->Ec Γ' l d=some w
 |.non,d,w,q=>by simp only[Ec] at q |-;exact q
 |.som e,d,w,q=>by
  simp only[Ec] at q |-;exact Bb (λx=>Bl (Bu h e d)) (λ_ _ z=>z) q
theorem Hy(h:∀f g w,Γ f g=some w->Γ' f g=some w):∀(l:It') (d:CF) (w:List D),evW Γ l d=some w->evW Γ' l d=some w
 |.seq e,d,w,q=>by
  simp only[evW] at q |-;exact Bb (λx=>Bl (Bu h e d)) (λ_ _ z=>z) q
 |.seqV i,d,w,q=>by simp only[evW] at q |-;exact q
 |.range1 a,d,w,q=>by
  simp only[evW] at q |-;exact Bb (λx=>Bb (λx=>Bl (Bu h a d)) λ_ _ z=>z) (λ_ _ z=>z) q
 |.range2 a b,d,w,q=>by
  simp only[evW] at q |-;exact Bb (λx=>Bb (λx=>Bl (Bu h a d)) λ_ _ z=>z) (λ_ _=>Bb (λx=>Bb (λx=>Bl (Bu h b d)) λ_ _ z=>z) λ_ _ z=>z) q
 |.enum e,d,w,q=>by
  simp only[evW] at q |-;exact Bl (λx=>Bb (λx=>Bl (Bu h e d)) λ_ _ z=>z) q
 |.rev e,d,w,q=>by
  simp only[evW] at q |-;exact Bl (λx=>Bb (λx=>Bl (Bu h e d)) λ_ _ z=>z) q
 |.zipV _ _,d,w,q=>by simp only[evW] at q;cases q
 |.zip a b,d,w,q=>by
  simp only[evW] at q |-;exact Bb (λx=>Bb (λx=>Bl (Bu h a d)) λ_ _ z=>z) (λ_ _=>Bb (λx=>Bb (λx=>Bl (Bu h b d)) λ_ _ z=>z) λ_ _ z=>z) q
end
theorem Hz(h:∀f g w,Γ f g=some w->Γ' f g=some w):∀(l:It') (d:CB) (w:List D×CB),evI Γ l d=some w->evI Γ' l d=some w
 |.seq e,d,w,q=>by
  simp only[evI] at q |-;exact Bb (Bu h e (view d)) (λ_ _ z=>z) q
 |.seqV i,d,w,q=>by simp only[evI] at q |-;exact q
 |.range1 a,d,w,q=>by
  simp only[evI] at q |-;exact Bb (λx=>Bb (λx=>Bl (Bu h a (view d))) λ_ _ z=>z) (λ_ _ z=>z) q
 |.range2 a b,d,w,q=>by
  simp only[evI] at q |-;exact Bb (λx=>Bb (λx=>Bl (Bu h a (view d))) λ_ _ z=>z) (λ_ _=>Bb (λx=>Bb (λx=>Bl (Bu h b (view d))) λ_ _ z=>z) λ_ _ z=>z) q
 |.enum e,d,w,q=>by
  simp only[evI] at q |-;exact Bb (Bu h e (view d)) (λ_ _ z=>z) q
 |.rev e,d,w,q=>by simp only[evI] at q;cases q
 |.zipV _ _,d,w,q=>by simp only[evI] at q |-;exact q
 |.zip a b,d,w,q=>by
  simp only[evI] at q |-;exact Bb (λx=>Bb (λx=>Bl (Bu h a (view d))) λ_ _ z=>z) (λ_ _=>Bb (λx=>Bb (λx=>Bl (Bu h b (view d))) λ_ _ z=>z) λ_ _ z=>z) q
theorem oA{c h:CB->Option Bool}{b i:CB->Option Out}(j:∀d k,c d=some k->h d=some k)(l:∀d o,b d=some o->i d=some o):∀(n:Nat) (d:CB) (o:Out),bE c b n d=some o->bE h i n d=some o
 |0,_,_,q=>by cases q
 |n+1,d,o,q=>by
  unfold bE at q |-;cases e:c d with
  |none=>rw[e] at q;cases q
  |some k=>
   simp only[e] at q;simp only[j d k e];cases k with
   |false=>exact q
   |true=>
    cases f:b d with
    |none=>simp only[f] at q;cases q
    |some o2=>
     simp only[f] at q;simp only[l d o2 f];cases o2 with
     |rt w=>exact q
     |nx g=>exact oA j l n g o q
theorem oB{h:D->CB->Option CB}{b m:CB->Option Out}(n:∀f o,b f=some o->m f=some o):∀(l:List D) (f:CB) (o:Out),forN h b l f=some o->forN h m l f=some o
 |[],_,_,q=>q
 |d::l,f,o,q=>by
  unfold forN at q |-;cases e:h d f with
  |none=>rw[e] at q;cases q
  |some g=>
   simp only[e] at q;simp only
   cases i:b g with
   |none=>simp only[i] at q;cases q
   |some o2=>
    simp only[i] at q;simp only[n g o2 i];cases o2 with
    |rt w=>exact q
    |nx j=>exact oB n l j o q
mutual
def gm:S->Bool
 |.tryC _ _ _ _ _=>false
 |.iff _ a b=>noTrys a && noTrys b
 |.whl _ b=>noTrys b
 |.frr _ _ b=>noTrys b
 |_=>true
def noTrys:Ss->Bool
 |.nil=>true
 |.cons s l=>gm s && noTrys l
end
mutual
theorem KH(h:∀f r w,Γ f r=some w->Γ' f r=some w):∀(s:S) (d:CB) (o:Out),gm s=true->ex Γ s d=some o->ex Γ' s d=some o
 |.asg i e,d,o,_,q=>by
  simp only[ex] at q |-;exact Bb (Bu h e _) (λ_ _ z=>z) q
 |.unp A e,d,o,_,q=>by
  simp only[ex] at q |-;exact Bb (Bu h e _) (λ_ _ z=>z) q
 |.par i j a b,d,o,_,q=>by
  simp only[ex] at q |-;exact Bb (λx=>Bl (Bu h a _)) (λ_ _=>Bb (λx=>Bl (Bu h b _)) λ_ _ z=>z) q
 |.ret e,d,o,_,q=>by
  simp only[ex] at q |-;exact Bl (Bu h e _) q
 |.retV i,d,o,_,q=>by simp only[ex] at q |-;exact q
 |.iff c a b,d,o,n,q=>by
  simp only[gm,Zl] at n;simp only[ex,EI] at q |-;exact Bb (λx=>Bb (λx=>Bl (Bu h c _)) λ_ _ z=>z) (λ_ y=>fh (CP h a d y n.1) (CP h b d y n.2)) q
 |.whl c b,d,o,n,q=>by
  simp only[gm] at n;simp only[ex] at q |-;obtain⟨m,u⟩:=nV q
  refine kH (oA (λd k z=>?_) (λd o z=>CP h b d o n z) m d o u);unfold EI at z |-;exact Bb (λx=>Bl (Bu h c _)) (λ_ _ z=>z) z
 |.frr t v b,d,o,n,q=>by
  simp only[gm] at n;simp only[ex] at q |-;exact Bb (Hz h v d) (λp y=>oB (λd o z=>CP h b d o n z) _ _ _) q
 |.tryC f g l i j,d,o,n,q=>by cases n
 |.app i e,d,o,_,q=>by
  simp only[ex] at q |-;exact Bb (Bu h e _) (λ_ _ z=>z) q
 |.pop i,d,o,_,q=>by simp only[ex] at q |-;exact q
 |.clr i,d,o,_,q=>by simp only[ex] at q |-;exact q
 |.seti i k e,d,o,_,q=>by
  simp only[ex] at q |-;exact Bb (Bu h e _) (λ_ _=>Bb (λx=>Bb (λx=>Bl (Bu h k _)) λ_ _ z=>z) λ_ _ z=>z) q
 |.never,d,o,_,q=>by simp only[ex] at q;cases q
theorem CP(h:∀f g w,Γ f g=some w->Γ' f g=some w):∀(l:Ss) (d:CB) (o:Out),noTrys l=true->exs Γ l d=some o->exs Γ' l d=some o
 |.nil,d,o,_,q=>by simp only[exs] at q |-;exact q
 |.cons s l,d,o,n,q=>by
  simp only[noTrys,Zl] at n;simp only[exs] at q |-;refine Bb (λo z=>KH h s d o n.1 z) (λo2 y z=>?_) q;cases o2 with
  |nx e=>exact CP h l e y n.2 z
  |rt w=>exact z
end
def tab:List (Nat×(∅))->Nat->∅
 |[],_=>λ_=>none
 |(k,m)::t,n=>if n=k then m else tab t n
theorem oC:∀(T:List (Nat×(∅))),(∀p∈T,Γ p.1=p.2)->∀f d w,tab T f d=some w->Γ f d=some w
 |[],_,_,_,_,q=>by simp only[tab] at q;cases q
 |(k,m)::t,h,f,d,w,q=>by
  unfold tab at q;by_cases e:f=k
  ·rw[if_pos e] at q;subst e;rw[h (f,m) (.head _)];exact q
  ·rw[if_neg e] at q;exact oC t (λp g=>h p (.tail _ g)) f d w q
def bq{b:Ss}{n:Nat}(T:List (Nat×(∅)))(e:∀p∈T,Γ p.1=p.2)(f:noTrys b=true)(d:List D)(w:W)(h:run (tab T) b n d=some w):run Γ b n d=some w:=by
 unfold run at h |-;exact Bb (λo=>CP (oC T e) b _ o f) (λ_ _ z=>z) h
def gn{k:Nat}{m:∅}{t:List (Nat×(∅))}:tab ((k,m)::t) k=m:=if_pos rfl
def i7{k n:Nat}{m:∅}{t:List (Nat×(∅))}(h:n≠k):tab ((k,m)::t) n=tab t n:=if_neg h
end
def cm_lt{a b:Int}:CI .lt (.int a) (.int b)=some (decide (a<b)):=rfl
def cm_le{a b:Int}:CI .le (.int a) (.int b)=some (decide (a<=b)):=rfl
def cm_gt{a b:Int}:CI .gt (.int a) (.int b)=some (decide (b<a)):=rfl
def cm_ge{a b:Int}:CI .ge (.int a) (.int b)=some (decide (b<=a)):=rfl
def cm_eq{a b:Int}:CI .eq (.int a) (.int b)=some (decide (a=b)):=rfl
def cm_ne{a b:Int}:CI .ne (.int a) (.int b)=some (!decide (a=b)):=rfl
def cm_eqB{a b:Bool}:CI .eq (.bl a) (.bl b)=some (a == b):=rfl
def cm_neB{a b:Bool}:CI .ne (.bl a) (.bl b)=some (!(a == b)):=rfl
def oD{a b:List D}:CI .eq (.tup a) (.tup b)=if (dOkL 49 a && dOkL 49 b)=true then some (eqL a b) else none:=rfl
def oE{a b:List D}:CI .ne (.tup a) (.tup b)=if (dOkL 49 a && dOkL 49 b)=true then some (!eqL a b) else none:=by
 show Option.map not (if _ then _ else _)=_;split<;>rfl
def cm_eqL{a b:List D}:CI .eq (.lst a) (.lst b)=if (dOkL 49 a && dOkL 49 b)=true then some (eqL a b) else none:=rfl
def oF{a b:List D}:CI .ne (.lst a) (.lst b)=if (dOkL 49 a && dOkL 49 b)=true then some (!eqL a b) else none:=by
 show Option.map not (if _ then _ else _)=_;split<;>rfl
def cm_in{x:D}{l:List D}:CI .isin x (.lst l)=if (dOk 50 x && dOkL 49 l)=true then some (l.any λy=>eqD y x) else none:=rfl
def kW{x:D}{l:List D}:CI .notin x (.lst l)=if (dOk 50 x && dOkL 49 l)=true then some (!(l.any λy=>eqD y x)) else none:=by
 show Option.map not (if _ then _ else _)=_;split<;>rfl
def cm_isN{a:D}:CI .isN a .non=some (du a):=rfl
def vu{a:D}:CI .notN a .non=some (!du a):=rfl
end DL
namespace Sf
abbrev gc(a b:Int):Int:=((Int.gcd a b:Nat):Int)
def JX(a b:Int):0<=gc a b:=Yx _
def dA{a b:Int}(h:b≠0):0<gc a b:=K5.mpr (Int.gcd_pos_of_ne_zero_right a h)
def kX{g s:Int}:gc s (g%s)=gc g s:=by
 have e:g=g%s+s*(g/s):=by have:=Int.emod_add_mul_ediv g s;omega
 show((Int.gcd s (g%s):Nat):Int)=((Int.gcd g s:Nat):Int);have h:Int.gcd s g=Int.gcd s (g%s):=by
  conv=>lhs;rw[e]
  rw[Int.gcd_add_mul_left_right]
 rw[Int.gcd_comm g s,h]
def i8{g:Int}(h:0<=g):gc g 0=g:=by
 show((Int.gcd g 0:Nat):Int)=g;rw[Int.gcd_zero];omega
def oG(a b:Int):gc (if a<0 then -a else a) (if b<0 then -b else b)=gc a b:=by
 show((Int.gcd _ _:Nat):Int)=_;split<;>split<;>simp only[Int.neg_gcd,Int.gcd_neg]
def fi{p q:Int}(h:∀c,c∣p->c∣q->c∣1):Int.gcd p q=1:=Qa.mpr h
def i9{k m n:Int}(h:Int.gcd k m=1)(d:k∣m*n):k∣n:=by
 have e:=Q1 (n:=k) (m:=m) (k:=n) h;have f:Int.gcd k (m*n)=k.natAbs:=Int.gcd_eq_natAbs_left d;rw[f] at e;exact Int.gcd_eq_natAbs_left_iff_dvd.mp e.symm
def d8{a b:Int}(h:a∣b)(d:b≠0):a.natAbs<=b.natAbs:=
 Nat.le_of_dvd vB (Int.natAbs_dvd_natAbs.mpr h)
def kY{a b:Int}(h:0<gc a b):∃x y:Int,a=gc a b*x/\b=gc a b*y/\Int.gcd x y=1:=by
 obtain⟨x,d⟩:=Qk a b
 obtain⟨y,f⟩:=Wd a b
 refine⟨x,y,d,f,?_⟩
 have g:Int.gcd a b=(gc a b).natAbs*Int.gcd x y:=by
  have e:=Int.gcd_mul_left (gc a b) x y;have i:gc a b*x=a:=d.symm;have j:gc a b*y=b:=f.symm;rw[i,j] at e;exact e
 have l:(gc a b).natAbs=Int.gcd a b:=Yq _;rw[l] at g;have m:0<Int.gcd a b:=K5.mp h;exact(Nat.eq_of_mul_eq_mul_left m (by rw[Vb];exact g)).symm
structure Fra(p q:Int):Prop where
 pos:0<q
 co:Int.gcd p q=1
def Fra.cross_dvd{p q N B:Int}(f:Fra p q)(h:p*B=N*q):p∣N/\q∣B:=by
 constructor
 ·refine i9 f.co ⟨B,?_⟩;rw[h,Q9]
 ·refine i9 (k:=q) (m:=p) (by rw[Int.gcd_comm];exact f.co) ⟨N,?_⟩;rw[h,Q9]
def Fra.cross_le{p q N B:Int}(f:Fra p q)(d:B≠0)(h:p*B=N*q):p.natAbs<=N.natAbs/\q.natAbs<=B.natAbs:=by
 obtain⟨i,j⟩:=f.cross_dvd h
 refine⟨?_,d8 j d⟩
 by_cases g:N=0
 ·subst g;rw[Int.zero_mul] at h;rcases Vd.mp h with e|e
  ·rw[e];exact Zn _
  ·exact absurd e d
 ·exact d8 i g
def Fra.uniq{p q r s:Int}(f:Fra p q)(g:Fra r s)(h:p*s=r*q):p=r/\q=s:=by
 have d:=(f.cross_dvd h).2;have i:=(g.cross_dvd h.symm).2;have e:q=s:=Int.dvd_antisymm (W9 f.pos) (W9 g.pos) d i;subst e;exact⟨K6 (by have:=f.pos;omega) h,rfl⟩
def by_(t b:Int):Int:=if b<0 then -(gc t b) else gc t b
def Dj(t b:Int):Int:=t.fdiv (by_ t b)
def low2(t b:Int):Int:=b.fdiv (by_ t b)
def KQ{t b:Int}(h:b≠0):by_ t b≠0:=by
 have:=dA (a:=t) h
 unfold by_;split<;>omega
def oH{t b:Int}(h:b≠0):t=by_ t b*Dj t b/\b=by_ t b*low2 t b/\Fra (Dj t b) (low2 t b):=by
 have i:=dA (a:=t) h;obtain⟨x,y,r,j,m⟩:=kY i
 have n:=KQ (t:=t) h;have key:∃z:Int,(z=1\/z = -1)/\by_ t b=gc t b*z/\0<y*z:=by
  by_cases g:b<0
  ·refine⟨-1,.inr rfl,?_,?_⟩
   ·unfold by_;rw[if_pos g];omega
   ·have:y<0:=by
     rw[j] at g;by_cases d:y<0
     ·exact d
     ·exact absurd g (Kl.mpr (Yy (W9 i) (Kl.mp d)))
    omega
  ·refine⟨1,.inl rfl,?_,?_⟩
   ·unfold by_;rw[if_neg g];omega
   ·have:0<y:=by
     by_cases d:0<y
     ·exact d
     ·have:=W5 (W9 i) (Kl.mp d)
      rw[<-j] at this;omega
    omega
 obtain⟨z,o,f,l⟩:=key
 have v:z*z=1:=by rcases o with e|e<;>subst e<;>decide
 have p:t=by_ t b*(x*z):=by
  rw[f];conv=>lhs;rw[r]
  grind
 have q:b=by_ t b*(y*z):=by
  rw[f];conv=>lhs;rw[j]
  grind
 have l1:Dj t b=x*z:=by
  unfold Dj;conv=>lhs;arg 1;rw[p]
  exact Z6 _ n
 have l2:low2 t b=y*z:=by
  unfold low2;conv=>lhs;arg 1;rw[q]
  exact Z6 _ n
 rw[l1,l2];refine⟨p,q,l,?_⟩
 rcases o with e|e<;>subst e
 ·rw[Ue,Ue];exact m
 ·have s:x * -1 = -x:=by omega
  have u:y * -1 = -y:=by omega
  rw[s,u,Int.neg_gcd,Int.gcd_neg];exact m
def oJ{t b:Int}(h:b≠0):Fra (Dj t b) (low2 t b):=(oH h).2.2
def vw{t b:Int}(h:b≠0):Dj t b*b=t*low2 t b:=by
 obtain⟨d,e,_⟩:=oH (t:=t) h
 generalize by_ t b=g at d e;generalize Dj t b=x at d e |-;generalize low2 t b=y at d e |-;subst d;subst e;grind
def CY(a b c d:Int):Int:=a*(d.fdiv (gc b d))+c*(b.fdiv (gc b d))
def Ep(a b c d:Int):Int:=(CY a b c d).fdiv (gc (CY a b c d) (gc b d))
def Eo(a b c d:Int):Int:=b.fdiv (gc b d)*d.fdiv (gc (CY a b c d) (gc b d))
def HV{a b c d:Int}(f:Fra a b)(g:Fra c d):Fra (Ep a b c d) (Eo a b c d)/\Ep a b c d*(b*d)=(a*d+c*b)*Eo a b c d:=by
 have W:=f.pos;have X:=g.pos;have u:0<gc b d:=dA vB;obtain⟨h,e,v,ed,H⟩:=kY u
 have I:0<gc (CY a b c d) (gc b d):=dA vB;obtain⟨o,l,t,J,w⟩:=kY I
 have p:gc b d≠0:=by omega
 have q:gc (CY a b c d) (gc b d)≠0:=by omega
 have K:b.fdiv (gc b d)=h:=by
  conv=>lhs;arg 1;rw[v]
  exact Z6 _ p
 have M:d.fdiv (gc b d)=e:=by
  conv=>lhs;arg 1;rw[ed]
  exact Z6 _ p
 have N:CY a b c d=a*e+c*h:=by unfold CY;rw[K,M]
 have O:Ep a b c d=o:=by
  unfold Ep;conv=>lhs;arg 1;rw[t]
  exact Z6 _ q
 have z:d=gc (CY a b c d) (gc b d)*(l*e):=by
  conv=>lhs;rw[ed]
  rw[<-Um];conv=>lhs;arg 1;rw[J]
 have P:d.fdiv (gc (CY a b c d) (gc b d))=l*e:=by
  conv=>lhs;arg 1;rw[z]
  exact Z6 _ q
 have Q:Eo a b c d=h*(l*e):=by unfold Eo;rw[K,P]
 rw[O,Q];generalize gc (CY a b c d) (gc b d)=r at *;generalize gc b d=s at *;rw[N] at t;have R:0<h:=by
  by_cases m:0<h
  ·exact m
  ·have:=W5 (W9 u) (Kl.mp m);omega
 have S:0<e:=by
  by_cases m:0<e
  ·exact m
  ·have:=W5 (W9 u) (Kl.mp m);omega
 have T:0<l:=by
  by_cases m:0<l
  ·exact m
  ·have:=W5 (W9 I) (Kl.mp m);omega
 have U:Int.gcd a h=1:=fi λk n i=>Qa.mp f.co k n (by rw[v];exact Ka i)
 have V:Int.gcd c e=1:=fi λk n i=>Qa.mp g.co k n (by rw[ed];exact Ka i)
 have L:o∣a*e+c*h:=⟨r,by rw[t,Q9]⟩;have A:Int.gcd o h=1:=fi λk n i=>by
  have B:k∣a*e:=(Int.dvd_add_left (Ka i)).mp (Wn n L);have C:Int.gcd k e=1:=fi λj D E=>Qa.mp H j (Wn D i) E
  have F:k∣a:=i9 C (by rw[Q9];exact B);exact Qa.mp U k F i
 have G:Int.gcd o e=1:=fi λk n i=>by
  have B:k∣c*h:=(Int.dvd_add_right (Ka i)).mp (Wn n L);have C:Int.gcd k h=1:=fi λj D E=>Qa.mp H j E (Wn D i)
  have F:k∣c:=i9 C (by rw[Q9];exact B);exact Qa.mp V k F i
 refine⟨⟨Wh R (Wh T S),?_⟩,?_⟩
 ·rw[Q1 A,Q1 w];exact G
 ·subst v;subst ed;subst J;have:a*(r*l*e)+c*(r*l*h)=r*l*(r*o):=by rw[<-t];grind
  rw[this];grind
def cM(x:Rat):Fra x.num (x.den:Int):=⟨by have:=x.den_nz;omega,by
 have:=x.reduced
 show Nat.gcd x.num.natAbs ((x.den:Int)).natAbs=1;exact this⟩
def rat_of{p q:Int}(f:Fra p q):(Rat.divInt p q).num=p/\((Rat.divInt p q).den:Int)=q:=by
 have d:=f.pos;refine(cM (Rat.divInt p q)).uniq f ?_;have e:Rat.divInt (Rat.divInt p q).num ((Rat.divInt p q).den:Int)=Rat.divInt p q:=Yp _;exact(Vq (by have:=(Rat.divInt p q).den_nz;omega) vB).mp e
def ja{x:Rat}{p q:Int}(d:q≠0):x=Rat.divInt p q↔x.num*q=p*(x.den:Int):=by
 conv=>lhs;lhs;rw[<-Yp x]
 exact Vq (by have:=x.den_nz;omega) d
def vz{t b:Int}(h:b≠0):(Rat.divInt t b).num=Dj t b/\((Rat.divInt t b).den:Int)=low2 t b:=
 (cM _).uniq (oJ h) (by
  have e:=(ja (x:=Rat.divInt t b) h).mp rfl;have c:=vw (t:=t) h;have f:=(oJ (t:=t) h).pos;apply K6 h
  grind)
def vF(x y:Rat):(x+y).num=Ep x.num x.den y.num y.den/\((x+y).den:Int)=Eo x.num x.den y.num y.den:=by
 obtain⟨f,c⟩:=HV (cM x) (cM y)
 refine(cM _).uniq f ?_;have d:(x.den:Int)≠0:=by have:=x.den_nz;omega
 have g:(y.den:Int)≠0:=by have:=y.den_nz;omega
 have e:x+y=Rat.divInt (x.num*y.den+y.num*x.den) (x.den*y.den):=by
  conv=>lhs;rw[<-Yp x,<-Yp y]
  exact Ko _ _ d g
 have h:=(ja (x:=x+y) (Ys d g)).mp e;apply K6 (Ys d g)
 grind
def kZ(x y:Rat):x*y=Rat.divInt (x.num*y.num) (x.den*y.den):=by
 conv=>lhs;rw[<-Yp x,<-Yp y]
 exact Qs _ _
def vG{x y:Rat}(h:y≠0):x/y=Rat.divInt (x.num*y.den) (x.den*y.num):=by
 conv=>lhs;rw[<-Yp x,<-Yp y]
 rw[Ki,Rat.inv_divInt,Qs]
structure Sz(n:Nat)(x:Rat):Prop where
 t:x.num.natAbs<2^n
 b:x.den<2^n
def Bm{m n:Nat}(h:m<=n):2^m<=2^n:=Nat.pow_le_pow_right vA h
def Sz.mono{m n:Nat}{x:Rat}(h:Sz m x)(k:m<=n):Sz n x:=⟨Zg h.t (Bm k),Zg h.b (Bm k)⟩
def bu{a b m n:Nat}(h:a<2^m)(k:b<2^n):a*b<2^(m+n):=by
 rw[Nat.pow_add];exact Nat.mul_lt_mul'' h k
def oK{x:Rat}{p q:Int}{n:Nat}(d:q≠0)(e:x=Rat.divInt p q)(f:p.natAbs<2^n)(g:q.natAbs<2^n):Sz n x:=by
 obtain⟨a,b⟩:=(cM x).cross_le d ((ja d).mp e)
 exact⟨Wg a f,by have:=b;omega⟩
def Sz.mul{m n:Nat}{x y:Rat}(d:Sz m x)(e:Sz n y):Sz (m+n) (x*y):=by
 have a:(x.den:Int)≠0:=by have:=x.den_nz;omega
 have b:(y.den:Int)≠0:=by have:=y.den_nz;omega
 refine oK (Ys a b) (kZ x y) ?_ ?_
 ·rw[Z9];exact bu d.t e.t
 ·rw[Z9];exact bu d.b e.b
def Sz.add{m n:Nat}{x y:Rat}(d:Sz m x)(f:Sz n y):Sz (m+n+1) (x+y):=by
 have a:(x.den:Int)≠0:=by have:=x.den_nz;omega
 have b:(y.den:Int)≠0:=by have:=y.den_nz;omega
 have e:x+y=Rat.divInt (x.num*y.den+y.num*x.den) (x.den*y.den):=by
  conv=>lhs;rw[<-Yp x,<-Yp y]
  exact Ko _ _ a b
 have i:=bu d.t f.b;have g:=bu f.t d.b;rw[V3 n m] at g;have t3:=bu d.b f.b;have j:2^(m+n+1)=2^(m+n)+2^(m+n):=by rw[Vz];omega
 refine oK (Ys a b) e ?_ ?_
 ·have h:=G7 (x.num*y.den) (y.num*x.den);rw[Z9,Z9,Yq,Yq] at h;omega
 ·rw[Z9,Yq,Yq];omega
def Sz.neg{n:Nat}{x:Rat}(d:Sz n x):Sz n (-x):=⟨by show(-x.num).natAbs<_;rw[Jg];exact d.t,d.b⟩
def Sz.sub{m n:Nat}{x y:Rat}(d:Sz m x)(e:Sz n y):Sz (m+n+1) (x-y):=by
 rw[Kd];exact d.add e.neg
end Sf
namespace DL
noncomputable def k6:Ss:=#v[.asg 2 (.bi .abs #v[.var 0]),.asg 3 (.bi .abs #v[.var 1]),.whl (.cmp .ne (.var 3) (.int 0)) #v[.asg 4 (.bin .mod (.var 2) (.var 3)),.asg 2 (.var 3),.asg 3 (.var 4)],.retV 2]
noncomputable def k7:Ss:=#v[.iff (.cmp .eq (.var 1) (.int 0)) #v[.never] .nil,.asg 2 (.call 0 #v[.var 0,.var 1]),.iff (.cmp .lt (.var 1) (.int 0)) #v[.asg 2 (.neg (.var 2))] .nil,.ret (.tup #v[.bin .fdiv (.var 0) (.var 2),.bin .fdiv (.var 1) (.var 2)])]
def k8:Ss:=#v[.ret (.and (.isi (.var 0) .int) (.not (.isi (.var 0) .bool)))]
noncomputable def k9:Ss:=#v[.asg 2 (.call 0 #v[.ix (.var 0) (.int 1),.ix (.var 1) (.int 1)]),.asg 3 (.bin .add (.bin .mul (.ix (.var 0) (.int 0)) (.bin .fdiv (.ix (.var 1) (.int 1)) (.var 2))) (.bin .mul (.ix (.var 1) (.int 0)) (.bin .fdiv (.ix (.var 0) (.int 1)) (.var 2)))),.asg 4 (.call 0 #v[.var 3,.var 2]),.ret (.tup #v[.bin .fdiv (.var 3) (.var 4),.bin .mul (.bin .fdiv (.ix (.var 0) (.int 1)) (.var 2)) (.bin .fdiv (.ix (.var 1) (.int 1)) (.var 4))])]
def la:Ss:=#v[.ret (.call 9 #v[.var 0,.tup #v[.neg (.ix (.var 1) (.int 0)),.ix (.var 1) (.int 1)]])]
def lb:Ss:=#v[.ret (.call 1 #v[.bin .mul (.ix (.var 0) (.int 0)) (.ix (.var 1) (.int 0)),.bin .mul (.ix (.var 0) (.int 1)) (.ix (.var 1) (.int 1))])]
def lg:Ss:=#v[.asg 0 (.bi .abs #v[.var 0]),.asg 1 (.bi .abs #v[.var 1]),.whl (.cmp .gt (.var 1) (.int 0)) #v[.par 0 1 (.var 1) (.bin .mod (.var 0) (.var 1))],.retV 0]
noncomputable def lh:Ss:=#v[.iff (.or (.not (.isi (.var 0) .tuple)) (.or (.cmp .ne (.bi .len #v[.var 0]) (.int 2)) (.or (.not (.call 3 #v[.ix (.var 0) (.int 0)])) (.not (.call 3 #v[.ix (.var 0) (.int 1)]))))) #v[.ret (.bl false)] .nil,.ret (.and (.cmp .gt (.ix (.var 0) (.int 1)) (.int 0)) (.cmp .eq (.call 12 #v[.ix (.var 0) (.int 0),.ix (.var 0) (.int 1)]) (.int 1)))]
def lj:Ss:=#v[.ret (.call 1 #v[.bin .mul (.ix (.var 0) (.int 0)) (.ix (.var 1) (.int 1)),.bin .mul (.ix (.var 0) (.int 1)) (.ix (.var 1) (.int 0))])]
def fj:Ss:=#v[.ret (.cmp .lt (.bin .mul (.ix (.var 0) (.int 0)) (.ix (.var 1) (.int 1))) (.bin .mul (.ix (.var 1) (.int 0)) (.ix (.var 0) (.int 1))))]
def gq:Ss:=#v[.ret (.comp (.call 42 #v[.var 1,.var 2]) (.tup [1,2]) (.seq (.call 41 #v[.var 0])) 3 [] .non)]
def jb:Ss:=#v[.ret (.fm .zip #v[.var 0,.bin .add (.sl (.var 0) (.som (.int 1)) .non) (.sl (.var 0) .non (.som (.int 1)))])]
noncomputable def jc:Ss:=#v[.asg 2 (.call 10 #v[.ix (.var 0) (.int 1),.ix (.var 1) (.int 1)]),.asg 3 (.call 10 #v[.ix (.var 1) (.int 0),.ix (.var 0) (.int 0)]),.asg 4 (.call 9 #v[.call 11 #v[.var 2,.ix (.var 0) (.int 0)],.call 11 #v[.var 3,.ix (.var 0) (.int 1)]]),.ret (.call 43 #v[.tup #v[.var 2,.var 3,.var 4]])]
noncomputable def gs:Ss:=#v[.asg 1 (.int 1),.frr (.name 2) (.seqV 0) #v[.asg 1 (.bin .mul (.var 1) (.ix (.var 2) (.int 1)))],.asg 3 (.comp (.bin .mul (.ix (.var 1) (.int 0)) (.bin .fdiv (.var 2) (.ix (.var 1) (.int 1)))) (.name 1) (.seqV 0) 2 [1] .non),.asg 4 (.int 0),.frr (.name 5) (.seqV 3) #v[.asg 4 (.call 0 #v[.var 4,.var 5])],.ret (.fm .tupl #v[.comp (.bin .fdiv (.var 1) (.var 2)) (.name 1) (.seqV 3) 2 [4] .non])]
def jd:Ss:=#v[.ret (.call 9 #v[.call 11 #v[.tup #v[.var 0,.int 1],.ix (.var 2) (.int 0)],.call 11 #v[.tup #v[.var 1,.int 1],.ix (.var 2) (.int 1)]])]
noncomputable def gv:Ss:=#v[.asg 3 (.call 50 #v[.var 1,.var 2,.ix (.var 0) (.int 0)]),.frr (.name 4) (.seq (.sl (.var 0) (.som (.int 1)) .non)) #v[.asg 5 (.call 50 #v[.var 1,.var 2,.var 4]),.iff (.call 21 #v[.var 3,.var 5]) #v[.asg 3 (.var 5)] .nil],.retV 3]
def je:Ss:=#v[.ret (.bin .sub (.bin .mul (.ix (.var 0) (.int 0)) (.ix (.var 1) (.int 1))) (.bin .mul (.ix (.var 0) (.int 1)) (.ix (.var 1) (.int 0))))]
noncomputable def o_bounds_of:It'×E×Es×Es:=((.enum (.call 40 #v[.var 0])),(.call 10 #v[.tup #v[.int 0,.int 1],.call 59 #v[.var 1,.neg (.ix (.var 4) (.int 0)),.neg (.ix (.var 4) (.int 1))]]),#v[.call 92 #v[.var 2,.var 6]],#v[.bi .len #v[.var 2]])
def jf:Ss:=#v[.ret (.tup #v[.ix (.var 0) (.bin .sub (.var 1) (.int 1)),.ix (.var 0) (.var 1),.ix (.var 0) (.bin .mod (.bin .add (.var 1) (.int 1)) (.bi .len #v[.var 0]))])]
noncomputable def jg:Ss:=#v[.asg 1 (.fld (.ix (.var 0) (.int 0)) 1),.asg 2 (.fld (.ix (.var 0) (.int 1)) 1),.asg 3 (.fld (.ix (.var 0) (.int 2)) 1),.ret (.lst #v[.call 81 #v[.var 2,.var 3],.call 81 #v[.var 3,.var 1],.call 81 #v[.var 1,.var 2]])]
noncomputable def o_set_closing:Ss×E×Nat:=(#v[.asg 1 (.int 1),.frr (.name 2) (.seqV 0) #v[.asg 1 (.bin .mul (.var 1) (.ix (.fld (.var 2) 2) (.int 1)))],.asg 3 (.int 0),.asg 4 (.int 0),.frr (.tup [5,2]) (.zip (.call 93 #v[.var 0]) (.var 0)) #v[.asg 3 (.bin .sub (.var 3) (.bin .mul (.bin .mul (.var 5) (.ix (.fld (.var 2) 1) (.int 2))) (.var 1))),.asg 4 (.bin .sub (.var 4) (.bin .mul (.bin .mul (.var 5) (.ix (.fld (.var 2) 2) (.int 0))) (.bin .fdiv (.var 1) (.ix (.fld (.var 2) 2) (.int 1)))))],.asg 6 (.ix (.var 0) (.int 1))],(.ife (.cmp .gt (.var 4) (.int 0)) (.tup #v[.var 3,.var 4]) .non),6)
noncomputable def jh:Ss:=#v[.asg 1 .non,.frr (.name 2) (.range1 (.bi .len #v[.var 0])) #v[.asg 3 (.fld (.ix (.var 0) (.var 2)) 3),.iff (.and (.cmp .notN (.var 3) .non) (.or (.cmp .isN (.var 1) .non) (.call 21 #v[.var 3,.fld (.ix (.var 0) (.var 1)) 3]))) #v[.asg 1 (.var 2)] .nil],.retV 1]
def ji:Ss:=#v[.ret (.cmp .ge (.ix (.call 93 #v[.call 92 #v[.var 0,.var 1]]) (.int 1)) (.int 0))]
def o_drop:Es×Es:=(#v[.call 92 #v[.var 0,.bin .sub (.var 1) (.int 1)]],#v[.call 92 #v[.var 0,.bin .mod (.var 1) (.bi .len #v[.var 0])]])
noncomputable def gx:Ss:=#v[.asg 3 (.call 99 #v[.var 0,.var 2]),.asg 4 (.call 99 #v[.var 1,.var 2]),.asg 5 (.tup #v[.call 81 #v[.fld (.var 0) 1,.fld (.var 1) 1],.int 1]),.asg 6 (.call 10 #v[.call 11 #v[.tup #v[.ix (.fld (.var 1) 1) (.int 1),.int 1],.var 3],.call 11 #v[.tup #v[.ix (.fld (.var 0) 1) (.int 1),.int 1],.var 4]]),.asg 7 (.call 10 #v[.call 11 #v[.tup #v[.ix (.fld (.var 0) 1) (.int 0),.int 1],.var 4],.call 11 #v[.tup #v[.ix (.fld (.var 1) 1) (.int 0),.int 1],.var 3]]),.ret (.tup #v[.call 20 #v[.var 6,.var 5],.call 20 #v[.var 7,.var 5]])]
def jj:Ss:=#v[.ret (.call 10 #v[.tup #v[.ix (.fld (.var 0) 1) (.int 2),.int 1],.call 11 #v[.var 1,.fld (.var 0) 2]])]
noncomputable def jk:Ss:=#v[.asg 3 (.comp (.int 0) (.name 1) (.range1 (.var 1)) 2 [] .non),.frr (.name 2) (.range1 (.bi .max #v[.var 1,.bi .min #v[.bi .len #v[.var 0],.int 63]])) #v[.asg 4 (.int 0),.iff (.cmp .gt (.bi .len #v[.var 0]) (.int 0)) #v[.asg 4 (.bin .mod (.ix (.var 0) (.bin .mod (.var 2) (.bi .min #v[.bi .len #v[.var 0],.int 63]))) (.bin .add (.bin .pow (.int 10) (.int 60)) (.int 7)))] .nil,.asg 5 (.bin .mod (.var 2) (.var 1)),.seti 3 (.var 5) (.bin .mod (.bin .add (.bin .add (.bin .mul (.ix (.var 3) (.var 5)) (.int 48271)) (.var 4)) (.bin .mul (.var 2) (.var 2))) (.bin .add (.bin .pow (.int 10) (.int 60)) (.int 7)))],.retV 3]
def ll:Ss:=#v[.asg 2 (.call 12 #v[.var 0,.var 1]),.ret (.tup #v[.bin .fdiv (.var 0) (.var 2),.bin .fdiv (.var 1) (.var 2)])]
noncomputable def jl:Ss:=#v[.asg 1 (.tup #v[.bin .add (.int 1) (.bin .mod (.ix (.var 0) (.int 1)) (.int 5)),.bin .sub (.bin .mod (.ix (.var 0) (.int 2)) (.int 7)) (.int 3)]),.asg 2 (.tup #v[.bin .sub (.int 0) (.bin .mod (.ix (.var 0) (.int 3)) (.int 4)),.bin .add (.int 1) (.bin .mod (.ix (.var 0) (.int 4)) (.int 5))]),.iff (.cmp .le (.bin .mul (.ix (.var 1) (.int 0)) (.ix (.var 2) (.int 1))) (.bin .mul (.ix (.var 1) (.int 1)) (.ix (.var 2) (.int 0)))) #v[.asg 2 (.tup #v[.ix (.var 2) (.int 0),.bin .add (.ix (.var 2) (.int 1)) (.int 10)])] .nil,.asg 3 (.tup #v[.bin .add (.ix (.var 1) (.int 0)) (.ix (.var 2) (.int 0)),.bin .add (.ix (.var 1) (.int 1)) (.ix (.var 2) (.int 1))]),.asg 4 (.bin .mod (.ix (.var 0) (.int 0)) (.int 5)),.iff (.cmp .eq (.var 4) (.int 2)) #v[.ret (.lst #v[.tup #v[.int 0,.int 0],.var 1,.var 3,.var 2])] .nil,.iff (.cmp .eq (.var 4) (.int 3)) #v[.ret (.lst #v[.tup #v[.int 0,.int 0],.var 1,.var 2])] .nil,.iff (.cmp .eq (.var 4) (.int 4)) #v[.asg 5 (.tup #v[.bin .add (.ix (.var 1) (.int 0)) (.ix (.var 3) (.int 0)),.bin .add (.ix (.var 1) (.int 1)) (.ix (.var 3) (.int 1))]),.asg 6 (.tup #v[.bin .add (.ix (.var 2) (.int 0)) (.ix (.var 3) (.int 0)),.bin .add (.ix (.var 2) (.int 1)) (.ix (.var 3) (.int 1))]),.ret (.lst #v[.tup #v[.int 0,.int 0],.var 1,.var 5,.tup #v[.bin .mul (.int 2) (.ix (.var 3) (.int 0)),.bin .mul (.int 2) (.ix (.var 3) (.int 1))],.var 6,.var 2])] .nil,.ret (.call 105 #v[.var 0])]
noncomputable def jm:Ss:=#v[.asg 1 (.call 46 #v[.var 0]),.asg 2 (.ix (.lst #v[.int 1,.bin .add (.int 1) (.bin .mod (.ix (.var 0) (.int 5)) (.bin .pow (.int 10) (.int 9)))]) (.bin .mod (.bin .fdiv (.ix (.var 0) (.int 0)) (.int 5)) (.int 2))),.asg 3 (.ix (.lst #v[.int 10,.bin .pow (.int 10) (.int 18)]) (.bin .mod (.bin .fdiv (.ix (.var 0) (.int 0)) (.int 10)) (.int 2))),.asg 4 (.ix (.lst #v[.int 1,.bin .add (.int 1) (.bin .mod (.ix (.var 0) (.int 5)) (.int 6))]) (.bin .mod (.bin .fdiv (.ix (.var 0) (.int 0)) (.int 20)) (.int 2))),.asg 5 (.idx (.var 1) (.bi .min #v[.var 1])),.asg 6 (.lst .nil),.frr (.tup [7,8]) (.seq (.bin .add (.sl (.var 1) (.som (.var 5)) .non) (.sl (.var 1) .non (.som (.var 5))))) #v[.asg 9 (.call 103 #v[.bin .add (.bin .mul (.var 7) (.var 2)) (.bin .mod (.ix (.var 0) (.int 6)) (.var 3)),.var 4]),.app 6 (.tup #v[.var 9,.call 103 #v[.bin .add (.bin .mul (.var 8) (.var 2)) (.bin .mod (.ix (.var 0) (.int 7)) (.var 3)),.var 4]])],.retV 6]
def lr:Ss:=#v[.ret (.call 103 #v[.bin .add (.bin .mul (.ix (.var 0) (.int 0)) (.ix (.var 1) (.int 1))) (.bin .mul (.ix (.var 1) (.int 0)) (.ix (.var 0) (.int 1))),.bin .mul (.ix (.var 0) (.int 1)) (.ix (.var 1) (.int 1))])]
def Bx:Ss:=#v[.ret (.call 103 #v[.bin .mul (.ix (.var 0) (.int 0)) (.ix (.var 1) (.int 0)),.bin .mul (.ix (.var 0) (.int 1)) (.ix (.var 1) (.int 1))])]
def lu:Ss:=#v[.ret (.cmp .lt (.bin .mul (.ix (.var 0) (.int 0)) (.ix (.var 1) (.int 1))) (.bin .mul (.ix (.var 1) (.int 0)) (.ix (.var 0) (.int 1))))]
noncomputable def fk:Ss:=#v[.asg 3 (.call 108 #v[.ix (.var 1) (.int 0),.tup #v[.bin .sub (.int 0) (.ix (.ix (.var 0) (.int 0)) (.int 0)),.ix (.ix (.var 0) (.int 0)) (.int 1)]]),.asg 4 (.call 108 #v[.ix (.var 1) (.int 1),.tup #v[.bin .sub (.int 0) (.ix (.ix (.var 0) (.int 1)) (.int 0)),.ix (.ix (.var 0) (.int 1)) (.int 1)]]),.asg 5 (.call 108 #v[.ix (.var 2) (.int 0),.tup #v[.bin .sub (.int 0) (.ix (.ix (.var 0) (.int 0)) (.int 0)),.ix (.ix (.var 0) (.int 0)) (.int 1)]]),.asg 6 (.call 108 #v[.ix (.var 2) (.int 1),.tup #v[.bin .sub (.int 0) (.ix (.ix (.var 0) (.int 1)) (.int 0)),.ix (.ix (.var 0) (.int 1)) (.int 1)]]),.asg 7 (.call 74 #v[.var 3,.var 6]),.asg 8 (.call 74 #v[.var 4,.var 5]),.ret (.bin .sub (.bin .mul (.ix (.var 7) (.int 0)) (.ix (.var 8) (.int 1))) (.bin .mul (.ix (.var 8) (.int 0)) (.ix (.var 7) (.int 1))))]
noncomputable def fo:Ss:=#v[.frr (.name 2) (.range1 (.bi .len #v[.var 0])) #v[.iff (.cmp .lt (.call 45 #v[.ix (.var 0) (.bin .sub (.var 2) (.int 1)),.ix (.var 0) (.var 2),.var 1]) (.int 0)) #v[.ret (.bl false)] .nil],.ret (.bl true)]
noncomputable def lx:Ss:=#v[.asg 3 (.lst .nil),.frr (.tup [4,5]) (.seqV 0) #v[.asg 6 (.call 108 #v[.call 74 #v[.var 4,.var 1],.ix (.var 2) (.int 0)]),.app 3 (.tup #v[.var 6,.call 108 #v[.call 74 #v[.var 5,.var 1],.ix (.var 2) (.int 1)]])],.retV 3]
noncomputable def gy:Ss:=#v[.iff (.or (.not (.isi (.var 0) .tuple)) (.cmp .ne (.bi .len #v[.var 0]) (.int 2))) #v[.ret (.bl false)] .nil,.ret (.and (.call 14 #v[.ix (.var 0) (.int 0)]) (.call 14 #v[.ix (.var 0) (.int 1)]))]
end DL
namespace Hu
abbrev Pt:=Int×Int
def lt(a b:Pt):Prop:=a.1<b.1\/(a.1=b.1/\a.2<b.2)
end Hu
namespace DL
noncomputable def ft:Ss:=#v[.ret (.comp (.call 98 #v[.ix (.var 2) (.bin .sub (.var 1) (.int 1)),.ix (.var 2) (.var 1),.var 3]) (.name 1) (.range1 (.bi .len #v[.var 0])) 2 [0,1] .non)]
noncomputable def o_pushes:E×E×E×Ss:=((.call 95 #v[.var 2]),(.call 21 #v[.fld (.ix (.var 2) (.var 3)) 3,.tup #v[.int 1,.int 1]]),(.call 96 #v[.var 2,.var 3]),#v[.asg 4 (.call 100 #v[.var 2,.tup #v[.int 1,.int 1]]),.ret (.comp (.var 2) (.tup [1,2]) (.enum (.var 4)) 3 [4] (.som (.cmp .notin (.var 2) (.sl (.var 3) .non (.som (.var 1))))))])
def gA:Ss:=#v[.frr (.name 3) (.range1 (.var 2)) #v[.asg 0 (.bin .fdiv (.var 0) (.var 1))],.ret (.bin .mod (.var 0) (.var 1))]
noncomputable def jn:Ss:=#v[.asg 1 (.lst #v[.bin .sub (.bin .mod (.ix (.var 0) (.int 1)) (.int 3)) (.int 3)]),.frr (.name 2) (.range1 (.ix (.lst #v[.bin .add (.int 1) (.bin .mod (.ix (.var 0) (.int 2)) (.int 2)),.int 7]) (.bin .fdiv (.bin .mod (.bin .fdiv (.ix (.var 0) (.int 3)) (.int 16)) (.int 8)) (.int 7)))) #v[.app 1 (.bin .add (.bin .add (.ix (.var 1) (.neg (.int 1))) (.int 1)) (.bin .mod (.bin .fdiv (.ix (.var 0) (.int 2)) (.bin .add (.int 2) (.bin .mul (.int 3) (.var 2)))) (.int 3)))],.asg 3 (.lst #v[.bin .sub (.bin .mod (.ix (.var 0) (.int 3)) (.int 4)) (.int 3)]),.frr (.name 2) (.range1 (.ix (.lst #v[.bin .mod (.bin .fdiv (.ix (.var 0) (.int 3)) (.int 4)) (.int 3),.int 6]) (.bin .fdiv (.bin .mod (.bin .fdiv (.ix (.var 0) (.int 3)) (.int 16)) (.int 8)) (.int 7)))) #v[.app 3 (.bin .add (.bin .add (.ix (.var 3) (.neg (.int 1))) (.int 1)) (.bin .mod (.bin .fdiv (.ix (.var 0) (.int 4)) (.bin .add (.int 1) (.bin .mul (.int 3) (.var 2)))) (.int 3)))],.asg 4 (.bin .add (.bin .add (.bin .mul (.int 2) (.bi .max #v[.comp (.bin .mul (.var 1) (.var 1)) (.name 1) (.seq (.bin .add (.var 1) (.var 3))) 2 [] .non])) (.int 1)) (.bin .mod (.bin .fdiv (.ix (.var 0) (.int 4)) (.int 32)) (.int 9))),.ret (.bin .add (.comp (.tup #v[.var 1,.bin .mul (.var 1) (.var 1)]) (.name 1) (.seqV 1) 2 [] .non) (.comp (.tup #v[.var 1,.bin .sub (.var 2) (.bin .mul (.var 1) (.var 1))]) (.name 1) (.rev (.var 3)) 2 [4] .non))]
noncomputable def oM:Ss:=#v[.asg 3 (.lst .nil),.frr (.tup [4,5]) (.seqV 0) #v[.asg 6 (.call 108 #v[.call 74 #v[.var 4,.var 1],.ix (.var 2) (.int 0)]),.app 3 (.tup #v[.var 6,.call 108 #v[.call 74 #v[.var 5,.var 1],.ix (.var 2) (.int 1)]])],.retV 3]
def gB:Ss:=#v[.iff (.cmp .ne (.ix (.var 0) (.int 0)) (.ix (.var 1) (.int 0))) #v[.ret (.call 110 #v[.ix (.var 0) (.int 0),.ix (.var 1) (.int 0)])] .nil,.ret (.call 110 #v[.ix (.var 0) (.int 1),.ix (.var 1) (.int 1)])]
noncomputable def gC:Ss:=#v[.iff (.not (.isi (.var 0) .list)) #v[.ret (.bl false)] .nil,.asg 1 (.int 0),.frr (.name 2) (.range1 (.bi .len #v[.var 0])) #v[.iff (.or (.not (.call 114 #v[.ix (.var 0) (.var 2)])) (.and (.cmp .gt (.var 2) (.int 0)) (.not (.call 115 #v[.ix (.var 0) (.int 0),.ix (.var 0) (.var 2)])))) #v[.ret (.bl false)] .nil,.iff (.cmp .gt (.bi .len #v[.var 0]) (.int 2)) #v[.iff (.cmp .le (.call 45 #v[.ix (.var 0) (.bin .sub (.var 2) (.int 2)),.ix (.var 0) (.bin .sub (.var 2) (.int 1)),.ix (.var 0) (.var 2)]) (.int 0)) #v[.ret (.bl false)] .nil,.iff (.and (.call 115 #v[.ix (.var 0) (.bin .sub (.var 2) (.int 1)),.ix (.var 0) (.bin .sub (.var 2) (.int 2))]) (.call 115 #v[.ix (.var 0) (.bin .sub (.var 2) (.int 1)),.ix (.var 0) (.var 2)])) #v[.asg 1 (.bin .add (.var 1) (.int 1))] .nil] .nil],.ret (.or (.cmp .lt (.bi .len #v[.var 0]) (.int 3)) (.cmp .eq (.var 1) (.int 1)))]
noncomputable def Bq:Ss:=#v[.iff (.cmp .lt (.bi .len #v[.var 0]) (.int 2)) #v[.ret (.cmp .isin (.var 1) (.var 0))] .nil,.iff (.cmp .eq (.bi .len #v[.var 0]) (.int 2)) #v[.iff (.cmp .ne (.call 45 #v[.ix (.var 0) (.int 0),.ix (.var 0) (.int 1),.var 1]) (.int 0)) #v[.ret (.bl false)] .nil,.ret (.and (.not (.call 115 #v[.var 1,.ix (.var 0) (.int 0)])) (.not (.call 115 #v[.ix (.var 0) (.int 1),.var 1])))] .nil,.ret (.call 112 #v[.var 0,.var 1])]
noncomputable def gD:Ss:=#v[.asg 2 (.ix (.var 0) (.bin .mod (.var 1) (.bi .len #v[.var 0]))),.asg 3 (.ix (.lst #v[.tup #v[.int 1,.int 2],.tup #v[.int 2,.int 3],.tup #v[.int 1,.int 1]]) (.bin .mod (.bin .fdiv (.var 1) (.int 7)) (.int 3))),.asg 4 (.call 108 #v[.tup #v[.int 1,.int 1],.tup #v[.bin .sub (.int 0) (.ix (.var 3) (.int 0)),.ix (.var 3) (.int 1)]]),.asg 5 (.tup #v[.call 74 #v[.ix (.var 2) (.int 0),.var 4],.call 74 #v[.ix (.var 2) (.int 1),.var 4]]),.ret (.call 113 #v[.var 0,.var 3,.var 5])]
noncomputable def gE:Ss:=#v[.asg 2 (.comp (.bin .add (.int 1) (.call 104 #v[.var 2,.int 5,.var 1])) (.name 1) (.range1 (.bi .len #v[.var 0])) 2 [1] .non),.asg 3 (.lst #v[.tup #v[.int 0,.int 1],.tup #v[.int 0,.int 1]]),.frr (.tup [4,5]) (.zipV 2 0) #v[.frr (.name 6) (.range1 (.int 2)) #v[.seti 3 (.var 6) (.call 108 #v[.ix (.var 3) (.var 6),.call 74 #v[.tup #v[.var 4,.bi .sum #v[.var 2]],.ix (.var 5) (.var 6)]])]],.ret (.tup #v[.ix (.var 3) (.int 0),.ix (.var 3) (.int 1)])]
noncomputable def gF:Ss:=#v[.asg 3 (.call 54 #v[.var 0,.var 2]),.asg 4 (.call 54 #v[.var 1,.bin .fdiv (.var 2) (.int 3125)]),.asg 5 (.call 108 #v[.ix (.var 3) (.int 0),.tup #v[.bin .sub (.int 0) (.ix (.ix (.var 4) (.int 0)) (.int 0)),.ix (.ix (.var 4) (.int 0)) (.int 1)]]),.ret (.tup #v[.var 5,.call 108 #v[.ix (.var 3) (.int 1),.tup #v[.bin .sub (.int 0) (.ix (.ix (.var 4) (.int 1)) (.int 0)),.ix (.ix (.var 4) (.int 1)) (.int 1)]]])]
noncomputable def gG:Ss:=#v[.frr (.name 3) (.seq (.call 113 #v[.var 1,.tup #v[.int 1,.int 1],.var 2])) #v[.iff (.not (.call 112 #v[.var 0,.var 3])) #v[.ret (.bl false)] .nil],.ret (.bl true)]
noncomputable def d9:Ss:=#v[.asg 1 (.call 102 #v[.var 0,.int 18]),.asg 2 (.call 47 #v[.var 1]),.asg 3 (.call 47 #v[.sl (.var 1) (.som (.int 8)) .non]),.iff (.cmp .eq (.bin .mod (.ix (.var 1) (.int 16)) (.int 3)) (.int 1)) #v[.asg 3 (.call 118 #v[.var 2,.bin .fdiv (.ix (.var 1) (.int 16)) (.int 3)])] .nil,.iff (.and (.cmp .eq (.bin .mod (.ix (.var 1) (.int 16)) (.int 3)) (.int 2)) (.cmp .eq (.bi .len #v[.var 2]) (.int 4))) #v[.asg 4 (.lst #v[.call 54 #v[.lst #v[.ix (.var 2) (.int 0),.ix (.var 2) (.int 1)],.int 0],.call 54 #v[.lst #v[.ix (.var 2) (.int 3),.ix (.var 2) (.int 2)],.int 0]]),.asg 3 (.lst #v[.ix (.var 2) (.int 0),.ix (.var 4) (.int 0),.ix (.var 4) (.int 1),.ix (.var 2) (.int 3)])] .nil,.asg 5 (.lst #v[.lcp (.var 2),.lcp (.var 3)]),.asg 6 (.call 101 #v[.ix (.var 5) (.int 0),.ix (.var 5) (.int 1)]),.iff (.or (.not (.call 116 #v[.var 6])) (.cmp .ne (.var 5) (.lst #v[.var 2,.var 3]))) #v[.ret (.bl false)] .nil,.asg 7 (.lcp (.var 6)),.iff (.cmp .ne (.var 6) (.lst .nil)) #v[.app 7 (.call 54 #v[.var 6,.int 0])] .nil,.frr (.name 8) (.seqV 7) #v[.iff (.not (.call 121 #v[.var 2,.var 3,.var 8])) #v[.ret (.bl false)] .nil],.frr (.name 9) (.seq (.bin .add (.sl (.var 0) .non (.som (.int 5))) (.lst #v[.ix (.var 1) (.int 17)]))) #v[.asg 8 (.call 72 #v[.var 2,.var 3,.bin .mod (.var 9) (.bin .pow (.int 10) (.int 18))]),.iff (.cmp .ne (.call 121 #v[.var 2,.var 3,.var 8]) (.call 117 #v[.var 6,.var 8])) #v[.ret (.bl false)] .nil],.ret (.bl true)]
open PySem L2 PyProof.Rows
section
variable{X:Cx}{c:TC}{Γ:Nat->∅}
def LF(K:vE)(f g:Hp)(j e:CB)(u:TS):TS:=λD l H=>∃F,SR K f g F H l j/\∀d h i,Same F i->SR K f g i h d e->u D d h
theorem oN(q:XC X c Γ){post:List Stmt}{u:TS}(r:PSs X post u)(i j:Hp):∀(t:List Stmt) (m:Nat) (f:Ss) (g d:CB),trSs m c t=some f->exs Γ f g=some (.nx d)->PSs X (t++post) (LF X.K i j g d u)
 |[],0,_,_,_,h,_=>by simp only[trSs] at h;cases h
 |_::_,0,_,_,_,h,_=>by simp only[trSs] at h;cases h
 |[],m+1,f,g,d,h,e=>by
  simp only[trSs] at h;cases h;simp only[exs] at e;cases e;exact PSs.mono r λD v H ⟨F,S,k⟩=>k v H F (Same.refl _) S
 |s::l,m+1,f,g,d,h,e=>by
  simp only[trSs] at h;obtain⟨P,z,h⟩:=Za.mp h
  obtain⟨A,B,h⟩:=Zb.mp h
  subst h;simp only[exs] at e;obtain⟨o,C,e⟩:=Za.mp e
  cases o with
  |rt w=>cases e
  |nx n=>
   have a:=(kQ q m).1 _ _ _ _ z C i j;have b:=oN q r i j l m A n d B e;exact PSs.mono (Bz a b) λD v H ⟨F,S,k⟩=>⟨F,S,λE Q G I J=>⟨G,J,λp L M N O=>k p L M (I.trans N) O⟩⟩
end
def BoAt(K:vE)(F H:Hp)(a:Addr)(l:List D):Prop:=F a=none/\∃C h d e f g,PySem.W.nsIn K mainGlobals "Bound" = some (some (.ref C))/\H a=some (.ins C h [("place",d),("side",e),("least",f),("closing",g)])/\DenL K F l [d,e,f,g]
structure Obs(K:vE)(F H:Hp)(L:Addr)(os:List (Addr×List D)):Prop where
 hL:H L=some (.lst (os.map λo=>.ref o.1))
 fL:F L=none
 ob:∀o∈os,BoAt K F H o.1 o.2
 nd:(os.map (·.1)).Nodup
def Tr(L:Addr)(d:List (Addr×List D))(b:Addr):Prop:=b=L\/b∈d.map (·.1)
open Classical in
def snap(F H:Hp)(L:Addr)(d:List (Addr×List D)):Hp:=λb=>if Tr L d b then H b else F b
open Classical in
def bare(F:Hp)(L:Addr)(d:List (Addr×List D)):Hp:=λb=>if Tr L d b then none else F b
def Dg(d:List (Addr×List D)):List D:=d.map λo=>.obj o.1 o.2
section
variable{K:vE}{F H:Hp}{L:Addr}{os:List (Addr×List D)}
theorem Obs.none(O:Obs K F H L os){b:Addr}(t:Tr L os b):F b=none:=by
 rcases t with t|t
 ·rw[t];exact O.fL
 ·obtain⟨o,d,e⟩:=Zt.mp t
  rw[<-e];exact(O.ob o d).1
def Obs.same(O:Obs K F H L os):Same F (snap F H L os):=λb o e=>by
 have d:¬Tr L os b:=λt=>by rw[O.none t] at e;cases e
 unfold snap;rw[if_neg d];exact e
def vI(s:Same F H):Same (snap F H L os) H:=λb o e=>by
 unfold snap at e;by_cases t:Tr L os b
 ·rw[if_pos t] at e;exact e
 ·rw[if_neg t] at e;exact s b o e
def gH{b:Addr}(t:Tr L os b):snap F H L os b=H b:=by unfold snap;rw[if_pos t]
def Obs.denO(O:Obs K F H L os){o:Addr×List D}(e:o∈os):Den K (snap F H L os) (.obj o.1 o.2) (.ref o.1):=by
 obtain⟨_,C,l,f,g,i,j,c,h,d⟩:=O.ob o e
 have t:Tr L os o.1:=.inr (Wl e);exact Den.obj_mk (xs:=[f,g,i,j]) c ((gH t).trans h) rfl (d.mono O.same)
theorem oO{G:Hp}:∀{l:List (Addr×List D)},(∀o∈l,Den K G (.obj o.1 o.2) (.ref o.1))->DenL K G (Dg l) (l.map λo=>.ref o.1)
 |[],_=>DenL.nil
 |o::l,h=>DenL.cons (h o Wu) (oO λp d=>h p (Yv _ d))
def Obs.den(O:Obs K F H L os):Den K (snap F H L os) (.lst (Dg os)) (.ref L):=
 Den.lst_mk (SqL.of ((gH (.inl rfl)).trans O.hL)) (oO λo d=>O.denO d)
def jo{d:Hp}(O:Obs K F H L os)(s:Same (snap F H L os) d):Same F (bare d L os):=λb o e=>by
 have f:¬Tr L os b:=λt=>by rw[O.none t] at e;cases e
 unfold bare;rw[if_neg f];exact s b o (O.same b o e)
def vJ{d f:Hp}(s:Same d f):Same (bare d L os) f:=λb o e=>by
 unfold bare at e;by_cases t:Tr L os b
 ·rw[if_pos t] at e;cases e
 ·rw[if_neg t] at e;exact s b o e
def vK{d:Hp}(n:∀a o,d a=some o->snap F H L os a=some o\/H a=none):∀a o,bare d L os a=some o->F a=some o\/H a=none:=λa o e=>by
 unfold bare at e;by_cases t:Tr L os a
 ·rw[if_pos t] at e;cases e
 ·rw[if_neg t] at e;rcases n a o e with z|z
  ·unfold snap at z;rw[if_neg t] at z;exact .inl z
  ·exact .inr z
def ly{d:Hp}{b:Addr}(t:Tr L os b):bare d L os b=none:=by unfold bare;rw[if_pos t]
def Obs.at(O:Obs K F H L os){b:Addr}(t:Tr L os b):(∃f,H b=some (.lst f))\/∃C e g,H b=some (.ins C e g):=by
 rcases t with t|t
 ·subst t;exact .inl ⟨_,O.hL⟩
 ·obtain⟨o,i,j⟩:=Zt.mp t
  obtain⟨_,C,e,l,m,n,p,c,h,d⟩:=O.ob o i
  rw[<-j];exact .inr ⟨_,_,_,h⟩
def oP{d:Hp}(O:Obs K F H L os)(s:Same (snap F H L os) d):∀a f,SqT K d a f->SqT K (bare d L os) a f:=λa f h=>by
 have key:∀o,d a=some o->(∀g,o ≠ .lst g)->(∀C i j,o ≠ .ins C i j)->bare d L os a=some o:=λo e l m=>by
  have n:¬Tr L os a:=λt=>by
   rcases O.at t with⟨g,z⟩|⟨C,i,j,z⟩
   ·have:=s a _ ((gH t).trans z)
    rw[e] at this;exact l g (Zs this)
   ·have:=s a _ ((gH t).trans z)
    rw[e] at this;exact m _ _ _ (Zs this)
  unfold bare;rw[if_neg n];exact e
 rcases h with(h|⟨o,h⟩)|h
 ·exact .inl (.inl (key _ h (λ_ z=>by cases z) (λ_ _ _ z=>by cases z)))
 ·exact .inl (.inr ⟨o,key _ h (λ_ z=>by cases z) (λ_ _ _ z=>by cases z)⟩)
 ·exact .inr h
def BoAt.move{f g:Hp}{a:Addr}{l:List D}(B:BoAt K F H a l)(s:Same F f)(n:f a=Option.none)(e:g a=H a):BoAt K f g a l:=by
 obtain⟨_,C,i,j,m,o,p,c,h,d⟩:=B
 exact⟨n,C,i,j,m,o,p,c,e.trans h,d.mono s⟩
theorem Obs.move{d g:Hp}(O:Obs K F H L os)(s:Same F d)(n:∀b,Tr L os b->d b=Option.none)(e:∀b,Tr L os b->g b=H b):Obs K d g L os:=
 ⟨(e L (.inl rfl)).trans O.hL,n L (.inl rfl),λo f=>(O.ob o f).move s (n _ (.inr (Wl f))) (e _ (.inr (Wl f))),O.nd⟩
def Obs.read{d e:Hp}(O:Obs K F H L os)(s:Same (snap F H L os) d)(h:Same H e):Obs K (bare d L os) e L os:=
 O.move (jo O s) (λb t=>ly t) (λb t=>by
  rcases O.at t with⟨f,z⟩|⟨C,g,i,z⟩
  ·rw[z];exact h b _ z
  ·rw[z];exact h b _ z)
end
open PySem L2 PyProof.Rows
structure SS(K:vE)(F H:Hp)(σ:L2.St)(ρ:CF):Prop where
 sub:Same F H
 env:∀(i:Nat) d,ρ[i]? = some (some d)->∃v,σ[i]? = some (some v)/\Den K F d v
 len:σ.length=ρ.length
section
variable{K:vE}{F H F' H':Hp}{σ:L2.St}{ρ:CF}
def SS.er(S:SS K F H σ ρ):ER K H F F H σ ρ:=⟨S.sub,Same.refl _,Same.refl _,λ_ _ e=>.inl e,S.env⟩
theorem SS.mono(S:SS K F H σ ρ)(s:Same F F')(h:Same F' H'):SS K F' H' σ ρ:=⟨h,λi d e=>by
 obtain⟨v,f,g⟩:=S.env i d e
 exact⟨v,f,g.mono s⟩,S.len⟩
theorem SS.set(S:SS K F H σ ρ){i:Nat}{d:D}{v:V}(f:i<ρ.length)(q:Den K F d v):SS K F H (σ.set i (some v)) (ρ.set i (some d)):=⟨S.sub,λj e h=>by
 by_cases z:i=j
 ·subst z;rw[Ya f] at h;cases h;exact⟨v,Ya (by rw[S.len];exact f),q⟩
 ·rw[Z7 z] at h;obtain⟨u,g,l⟩:=S.env j e h
  exact⟨u,by rw[Z7 z];exact g,l⟩,by rw[Wq,Wq];exact S.len⟩
end
section
variable{X:Cx}{c:TC}{Γ:Nat->∅}
def IG(Γ:Nat->∅)(K:vE)(e:E):TE:=λh H Q=>∃F d w,SS K F H h d/\ev Γ e d=some w/\∀v f g,Same F g->ER K H F g f h d->RW K H g f w v->Q v f
def lA(f:XE X c Γ){n:Nat}{e:Expr}{d:E}(h:trE n c e=some d):PE X e (IG Γ X.K d):=λpins s g H Q I ⟨F,j,w,S,i,k⟩=>
 (cm f n).1 _ _ _ _ h i H F pins s g H Q I ⟨F,S.er,k⟩
def EA(Γ:Nat->∅)(K:vE)(e:Es):TA:=λg H Q=>∃F d h,SS K F H g d/\evs Γ e d=some h/\∀i j f,Same F f->ER K H F f j g d->DenL K f h i->Q i j
def E9(f:XE X c Γ){n:Nat}{e:List Expr}{d:Es}(h:trEs n c e=some d):PA X e (EA Γ X.K d):=λpos pins s g H Q I ⟨F,j,w,S,i,k⟩=>
 (cm f n).2.1 _ _ _ _ h i H F pos pins s g H Q I ⟨F,S.er,k⟩
def IF(Γ:Nat->∅)(K:vE)(e:E):TT:=λg H Q=>∃F f k,SS K F H g f/\((ev Γ e f).map W.d).bind bp=some k/\∀h i,Same F i->ER K H F i h g f->Q k h
def E6(f:XE X c Γ){n:Nat}{e:Expr}{d:E}(h:Dn n c e=some d):PT X e (IF Γ X.K d):=λpins s g H Q I ⟨F,j,k,S,i,q⟩=>
 (iT f n).1 _ _ _ _ h i H F pins s g H Q I ⟨F,S.er,q⟩
end
def cn(K:vE)(i:D->Addr->D->Prop):Sp:=λj H Q _=>∃F v T a d C h g,j=[v]/\Same F H/\Den K F T v/\i T a d/\F a=some (.ins C h g)/\g.length<1000/\PySem.W.nsIn K mainGlobals "Bound" = some (some (.ref C)) /\
 ∀e f u,Same F f->(∀b o,f b=some o->F b=some o\/H b=none)->(∀b o,b≠a->f b=some o->e b=some o)->(∀b o,b≠a->H b=some o->e b=some o)->e a=some (.ins C h (putF "closing" u g))->Den K f d u->Q .non e
section
variable{P:Program}{w:World}{K:vE}{mg:Str->Option Value}{base:Heap}{Γ:Nat->∅}
def FP{x q:Str}{n:Stmt}{f:Addr}{Z:FuncData}{N:List Str}{p mid:Str}{r k m:Nat}{h i:List (Str×Nat×Nat)}{t:List Stmt}{z:Ss}{g:Expr}{ve:E}{B G I:Pos}{Ψ:D->Addr->D->Prop}
 (Fn:Fun K x q n f Z)(S:FnScope N [p] (Ba n))(hb:Bc n=t++[.Assign [.Attribute (.Name mid B) "closing" G] g I])
 (J:trSs m ⟨N,Ba n,h,i,true⟩ t=some z)(L:trE m ⟨N,Ba n,h,i,true⟩ g=some ve)(M:slot ⟨N,Ba n,h,i,true⟩ mid=some r)
 (O:∀env,swapsWith g (some (.Attribute (.Name mid B) "closing" G)) I.line env=pure false)
 (hd:Deps P w K mg base k Γ h i true)
 (U:∀T a d,Ψ T a d->∃j l,exs Γ z ([~~~T]++List.replicate (N.length-1) none)=some (.nx j)/\(view j)[r]? = some (some (.obj a l))/\ev Γ ve (view j)=some (.val d)):
  FnOk P w K mg base C3 (k+1) f Z [p] (cn K Ψ):=by
 refine Fn.ok S (λvs H Q E ⟨F,v,T,a,d,C,dx,fs,V,_⟩=>by rw[V];rfl) (λa0 A outer s H vs Q E hr ⟨F,v,T,a,d,C,dx,fs,V,h2,h3,h4,h5,h6,h7,h8⟩=>?_);have W:=gk (CX:=C3) (E:=E) (outer:=outer) (H:=H) S hd hr;subst V;obtain⟨j,l,e1,e2,e3⟩:=U T a d h4
 obtain⟨s1,s2,s3,s4⟩:=bH W.toXE M
 have hv:=(cm W.toXE m).1 _ _ _ _ L e3 H F;have hl:=dr (fT (f := "closing") (pos:=I) (pos':=G) (bA (pos:=B) s1 (DL.Loc.vis s2) s3 s4) hv (O _));have hp:=oN W hl H F t m z _ _ J e1;rw[<-hb] at hp;refine⟨_,hp,F,?_,λa1 H1 F1 q1 S1=>?_⟩
 ·exact ot (N:=N) (K:=K) h2 (DenL.cons h3 DenL.nil)
 ·obtain⟨s0,R⟩:=S1.borrow
  refine⟨_,R,λu H2 F2 q2 R2 dn=>?_⟩
  obtain⟨y,y1,y2⟩:=R2.env r _ e2
  obtain⟨z1,C',a2,a3,xs,z2,z3,z4,z5⟩:=y2.obj
  have z6:=R2.base _ _ h5;rw[z3] at z6;cases z6;obtain⟨X,c',cl,na⟩:=(hd.xf rfl).ex
  have c2:some (some (Value.ref C))=some (some (Value.ref X)):=h7.symm.trans c';cases c2;refine⟨y,y1,a,C,dx,fs,z1,R2.sub _ _ z3,cl,na "closing" vA,h6,?_⟩
  refine h8 _ F2 u R2.base R2.new (λb o Y e=>?_) (λb o Y e=>?_) Bh dn
  ·rw[Bg Y];exact R2.sub b o e
  ·rw[Bg Y];exact R2.same b o e
def lB(K:vE):Sp:=λh H Q _=>∃x C d e f g,h=[.ref x,e,f,g]/\PySem.W.nsIn K mainGlobals "Bound" = some (some (.ref C))/\H x=some (.ins C d []) /\
 Q .non (upd H x (.ins C d [("place",e),("side",f),("least",g),("closing", .non)]))
def vL{x e:Str}{g:Stmt}{f:Addr}{q:FuncData}{k:Nat}{t u v z b1 D F G I J L M d1 d2 N O:Pos}{R}(T:Fun K x e g f q)(S:FnScope ["self","place","side","least"] ["self","place","side","least"] (Ba g))
 (U:Bc g=[.Assign [.Attribute (.Name "self" t) "place" u] (.Name "place" v) z,.Assign [.Attribute (.Name "self" b1) "side" D] (.Name "side" F) G,.Assign [.Attribute (.Name "self" I) "least" J] (.Name "least" L) M,.Assign [.Attribute (.Name "self" d1) "closing" d2] (.Constant .none R N) O])
 (W:∀y∈(["self","place","side","least"]:List Str),(Ba g).names.lookup y=some .local)(B:BFacts K):FnOk P w K mg base C3 (k+1) f q ["self","place","side","least"] (lB K):=by
 refine T.ok S (λX H Q E ⟨x,C,h,j,v1,n,o,_⟩=>by rw[o];rfl) (λp A outer s H X Q E hr ⟨x,C,h,j,v1,n,o,Y,Z,h4⟩=>?_);subst o;obtain⟨a0,r,l,m⟩:=B.ex
 rw[Y] at r;cases r;rw[U];have d:∀y∈(["self","place","side","least"]:List Str),DX (Dd C3 P w K mg base ["self","place","side","least"] e (Ba g) f p A outer s H E).nox.env.scope y:=λy hy=>.inl (W y hy)
 refine⟨_,Bz (fT (f := "place") (bA (i:=0) rfl (d "self" vA)) (bA (i:=1) rfl (d "place" vA)) rfl)
  (Bz (fT (f := "side") (bA (i:=0) rfl (d "self" vA)) (bA (i:=2) rfl (d "side" vA)) rfl)
  (Bz (fT (f := "least") (bA (i:=0) rfl (d "self" vA)) (bA (i:=3) rfl (d "least" vA)) rfl)
  (dr (fT (f := "closing") (bA (i:=0) rfl (d "self" vA)) mF rfl)))),?_⟩
 have l1:=fS "place" j [];have l2:=fS "side" v1 (putF "place" j []);have l3:=fS "least" n (putF "side" v1 (putF "place" j []));have l0:([]:List (Str×V)).length=0:=rfl;refine⟨j,rfl,.ref x,rfl,x,C,h,[],rfl,Z,l,m "place" vA,by decide,?_⟩
 refine⟨v1,rfl,.ref x,rfl,x,C,h,_,rfl,Bh,l,m "side" vA,by omega,?_⟩
 refine⟨n,rfl,.ref x,rfl,x,C,h,_,rfl,Bh,l,m "least" vA,by omega,?_⟩
 refine⟨.ref x,rfl,x,C,h,_,rfl,Bh,l,m "closing" vA,by omega,?_⟩
 show Q .non _;rw[ia,ia,ia];exact h4
end
open PySem L2 PyProof.Rows
def GSp(P:Program)(w:World)(K:vE)(e:Str->Option Value)(d:Heap)(k:Nat)(x:Str)(sp:Sp):Prop:=
 ∃(a:Addr) (f:FuncData) (ps:List Str),FnOk P w K e d C3 k a f ps sp/\e x=some (.ref a)/\PySem.W.keepIn K (.ref a)=true/\Binds K f ps []
structure BS(K:vE)(F H:Hp)(σ:L2.St)(ρ:CF)(L:Addr)(os:List (Addr×List D))(ib:Nat):Prop where
 ss:SS K F H σ ρ
 ob:Obs K F H L os
 hb:σ[ib]? = some (some (.ref L))
 nb:ρ[ib]? = some none
structure Kp(H0 F0:Hp)(T:Addr->Prop)(F H:Hp):Prop where
 fs:Same F0 F
 new:∀b o,F b=some o->F0 b=some o\/H0 b=none
 hs:∀b o,H0 b=some o -> ¬T b->H b=some o
theorem Kp.trans{H0 F0 g h f i:Hp}{T j:Addr->Prop}(a:Kp H0 F0 T g h)(b:Kp h g j f i)(t:∀b,j b->T b)(n:∀b,T b->f b=none):Kp H0 F0 T f i:=
 ⟨a.fs.trans b.fs,λc o e=>(b.new c o e).elim (λz=>a.new c o z) (λz=>by
  refine .inr ?_;cases q:H0 c with
  |none=>rfl
  |some u=>
   have d:¬T c:=λt=>by rw[n c t] at e;cases e
   rw[a.hs c u q d] at z;cases z),λc o e d=>b.hs c o (a.hs c o e d) λl=>d (t c l)⟩
def CL(d:CF)(e:Nat)(f:List (Addr×List D)):CF:=d.set e (some (.lst (Dg f)))
section
variable{K:vE}{F H:Hp}{σ:L2.St}{ρ:CF}{L:Addr}{os:List (Addr×List D)}{ib:Nat}{Γ:Nat->∅}
def lC{d:Type}{l:List d}{i:Nat}{x:d}(h:l[i]? = some x):i<l.length:=(Zi.mp h).1
theorem BS.snap(B:BS K F H σ ρ L os ib):SS K (DL.snap F H L os) H σ (CL ρ ib os):=by
 have d:=B.ss.mono B.ob.same (vI B.ss.sub);have:=d.set (lC B.nb) B.ob.den
 rwa [show σ.set ib (some (.ref L))=σ from ?_] at this
 apply Qv
 intro j;by_cases z:ib=j
 ·subst z;rw[Ya (lC B.hb),B.hb]
 ·rw[Z7 z]
def BS.back(B:BS K F H σ ρ L os ib){d f:Hp}(s:Same (DL.snap F H L os) d)(R:ER K H (DL.snap F H L os) d f σ (CL ρ ib os)):BS K (bare d L os) f σ ρ L os ib/\Kp H F (λ_=>False) (bare d L os) f:=
 ⟨⟨B.ss.mono (jo B.ob s) (vJ R.sub),B.ob.read s R.same,B.hb,B.nb⟩,jo B.ob s,vK R.new,λb o e _=>R.same b o e⟩
theorem BS.set(B:BS K F H σ ρ L os ib){i:Nat}{d:D}{v:V}(f:i<ρ.length)(e:i≠ib)(q:Den K F d v):BS K F H (σ.set i (some v)) (ρ.set i (some d)) L os ib:=
 ⟨B.ss.set f q,B.ob,by rw[Z7 e];exact B.hb,by rw[Z7 e];exact B.nb⟩
def setC(os:List (Addr×List D))(a:Addr)(d:D):List (Addr×List D):=os.map λo=>(o.1,if o.1=a then o.2.set 3 d else o.2)
def lD{a:Addr}{d:D}:(setC os a d).map (·.1)=os.map (·.1):=by
 unfold setC;rw[Yg];rfl
def vM{a:Addr}{d:D}:(setC os a d).map (λo=>V.ref o.1)=os.map λo=>V.ref o.1:=by
 unfold setC;rw[Yg];rfl
def setC_tr{a:Addr}{d:D}{b:Addr}:Tr L (setC os a d) b↔Tr L os b:=by unfold Tr;rw[lD]
def vO{d e f g u:V}:putF "closing" u [("place",d),("side",e),("least",f),("closing",g)]=([("place",d),("side",e),("least",f),("closing",u)]:List (Str×V)):=by
 unfold putF;rw[if_neg vA];unfold putF;rw[if_neg vA];unfold putF;rw[if_neg vA];unfold putF;rw[if_pos rfl]
def vP{G:Hp}{l:List D}{j m n o u:V}{d:D}(h:DenL K G l [j,m,n,o])(q:Den K G d u):DenL K G (l.set 3 d) [j,m,n,u]:=by
 obtain⟨f,g,rfl⟩:∃f g,l=f::g:=by cases l with|nil=>have:=h.length;cases this|cons a b=>exact⟨a,b,rfl⟩
 obtain⟨_,_,e,p,h⟩:=h.inv_cons;cases e
 obtain⟨t,l1,rfl⟩:∃f l1,g=f::l1:=by cases g with|nil=>have:=h.length;cases this|cons a b=>exact⟨a,b,rfl⟩
 obtain⟨_,_,e,r,h⟩:=h.inv_cons;cases e
 obtain⟨v,l2,rfl⟩:∃f l2,l1=f::l2:=by cases l1 with|nil=>have:=h.length;cases this|cons a b=>exact⟨a,b,rfl⟩
 obtain⟨_,_,e,s,h⟩:=h.inv_cons;cases e
 obtain⟨w,i,rfl⟩:∃f i,l2=f::i:=by cases l2 with|nil=>have:=h.length;cases this|cons a b=>exact⟨a,b,rfl⟩
 obtain⟨_,_,e,A,h⟩:=h.inv_cons;cases e
 have z:i=[]:=by have:=h.length;exact Jj.mp this.symm
 subst z;exact DenL.cons p (DenL.cons r (DenL.cons s (DenL.cons q DenL.nil)))
theorem Obs.setC{f H3:Hp}(O:Obs K F H L os){a:Addr}{d:D}{u:V}{C l:Addr}{m:List (Str×V)}(J:a∈os.map (·.1))(s:Same F f)(n:∀b,Tr L os b->f b=Option.none)(e:∀b o,b≠a->H b=some o->H3 b=some o)
 (g:H a=some (.ins C l m))(E:H3 a=some (.ins C l (putF "closing" u m)))(q:Den K f d u):Obs K f H3 L (DL.setC os a d):=by
 have i:L≠a:=λz=>by subst z;rw[O.hL] at g;cases g
 refine⟨by rw[vM];exact e L _ i O.hL,n L (.inl rfl),λo r=>?_,by rw[lD];exact O.nd⟩
 unfold DL.setC at r;obtain⟨p,t,rfl⟩:=Zt.mp r
 obtain⟨M,G,j,v,w,A,I,c,h,B⟩:=O.ob p t
 refine⟨n p.1 (.inr (Wl t)),?_⟩
 by_cases z:p.1=a
 ·simp only[if_pos z];rw[z] at h |-;rw[g] at h;cases h;exact⟨_,_,v,w,A,u,c,by rw[E,vO],vP (B.mono s) q⟩
 ·simp only[if_neg z];exact⟨G,j,v,w,A,I,c,e _ _ z h,B.mono s⟩
def BS.setc(B:BS K F H σ ρ L os ib){n:D->Addr->D->Prop}{A:Es}{T d:D}{a:Addr}{E:XK}{Q:VK}(U:evs Γ A (CL ρ ib os)=some [T])(V:n T a d)(W:lf d=true)(p:a∈os.map (·.1))
 (k:∀f g,BS K g f σ ρ L (DL.setC os a d) ib->Kp H F (Tr L os) g f->Q .non f):dQ (cn K n) [] E (EA Γ K A) σ H Q:=
 ⟨_,_,_,B.snap,U,λX G I q i Y=>by
  show cn K n (X++[]) G Q E;rw[Kc];obtain⟨v,Z,e,qv,qn⟩:=Y.inv_cons
  have:=qn.inv_nil
  subst this e;obtain⟨o,ho,eo⟩:=Zt.mp p
  obtain⟨f0,C,r,J,M,N,O,c,h,dd⟩:=B.ob.ob o ho
  rw[eo] at h;have s:Tr L os a:=.inr p;have P:I a=some (.ins C r [("place",J),("side",M),("least",N),("closing",O)]):=q _ _ ((gH s).trans h);refine⟨I,v,T,a,d,C,r,_,rfl,i.sub,qv,V,P,by simp only[Zw,Kv];decide,c,λf g u R n2 b2 S w2 dn=>?_⟩
  have j:Same (DL.snap F H L os) g:=q.trans R;obtain⟨B1,a0⟩:=B.back q i
  have w:G a=some (.ins C r [("place",J),("side",M),("least",N),("closing",O)]):=i.sub _ _ P;have sm:Same F (bare g L os):=jo B.ob j;have l:Same (bare g L os) f:=λb o e=>by
   unfold bare at e;by_cases t:Tr L os b
   ·rw[if_pos t] at e;cases e
   ·rw[if_neg t] at e;exact b2 b o (λz=>t (z ▸ s)) e
  have O2:Obs K (bare g L os) f L (DL.setC os a d):=B1.ob.setC p (λb o e=>by
   unfold bare at e |-;by_cases t:Tr L os b
   ·rw[if_pos t] at e;cases e
   ·rw[if_neg t] at e |-;exact R b o e) (λb t=>ly t) S w w2 (Den.shrink (oP B.ob j) d W dn)
  refine k f _ ⟨B.ss.mono sm l,O2,B.hb,B.nb⟩ ⟨sm,λb o e=>?_,λb o e m=>S b o (λz=>m (z ▸ s)) (i.same b o e)⟩;have m:¬Tr L os b:=λt=>by rw[ly t] at e;cases e
  unfold bare at e;rw[if_neg m] at e;rcases n2 b o e with z|z
  ·rcases i.new b o z with y|y
   ·unfold DL.snap at y;rw[if_neg m] at y;exact .inl y
   ·exact .inr y
  ·exact .inr (i.same.free z)⟩
end
open PySem L2 PyProof.Rows
def fu(K:vE)(i:List (Addr×List D)->Int->List (Addr×List D)->Prop):Sp:=λj H Q _=>∃F L e h d,j=[.ref L,.int h]/\Same F H/\Obs K F H L e/\i e h d /\
 ∀f g,Same g f->Kp H F (Tr L e) g f->(∀b,Tr L e b->g b=none)->Obs K g f L d->Q .non f
theorem oQ{d e:Type}(f:d->e):∀(l:List d) (n:Nat),(l.map f).eraseIdx n=(l.eraseIdx n).map f
 |[],_=>rfl
 |a::l,0=>rfl
 |a::l,n+1=>by
  show f a::(l.map f).eraseIdx n=f a::(l.eraseIdx n).map f;rw[oQ f l n]
section
variable{K:vE}{F H:Hp}{L:Addr}{os:List (Addr×List D)}
def Obs.erase(O:Obs K F H L os)(n:Nat):Obs K F (upd H L (.lst ((os.eraseIdx n).map λo=>.ref o.1))) L (os.eraseIdx n):=by
 have e:(os.eraseIdx n).Sublist os:=Vu os n;refine⟨Bh,O.fL,λo f=>?_,O.nd.sublist (e.map _)⟩
 have B:=O.ob o (e.subset f);refine B.move (Same.refl _) B.1 (Bg λz=>?_);obtain⟨_,C,g,i,j,l,m,c,h,d⟩:=B
 rw[z,O.hL] at h;cases h
end
section
variable{P:Program}{w:World}{K:vE}{mg:Str->Option Value}{base:Heap}{Γ:Nat->∅}
def lE{X:Cx}{c:TC}{m k:Nat}{e:Expr}{s:Es}{p g h:Pos}{d:D->Addr->D->Prop}(f:XE X c Γ)(i:Room k X.A)(j:trEs m c [e]=some s)(l:Bd e=true)(n:CO c "set_closing" = true)
 (G:GSp X.prog X.w X.K X.mg X.base k "set_closing" (cn X.K d)):PS X (.Expr (.Call (.Name "set_closing" p) [e] [] g) h) (ie (dQ (cn X.K d) [] E0 (EA Γ X.K s))):=by
 obtain⟨a,z,ps,o,q,r,t⟩:=G
 obtain⟨u,v⟩:=cK f n
 exact fP (kk (E:=E0) o i u q r t .nil iw (E9 f j) v (Bj l) rfl) rfl
def vQ{x u:Str}{v:Stmt}{f:Addr}{fd:FuncData}{k m:Nat}{l r:List (Str×Nat×Nat)}{T U:Expr}{s1 s2:Es}{p p1 p2 p3 ap cp ep c1 c2 q1 q2:Pos}{W:D->Addr->D->Prop}{Θ:List (Addr×List D)->Int->List (Addr×List D)->Prop}
 (Fn:Fun K x u v f fd)(S:FnScope ["bounds","k"] ["bounds","k"] (Ba v))
 (hb:Bc v=[.Expr (.Call (.Attribute (.Name "bounds" p) "pop" ap) [.Name "k" p1] [] cp) ep,.Expr (.Call (.Name "set_closing" p2) [T] [] c1) q1,.Expr (.Call (.Name "set_closing" p3) [U] [] c2) q2])
 (B:(ap.endLine == cp.line)=true)(hl:∀y∈(["bounds","k"]:List Str),(Ba v).names.lookup y=some .local)
 (X:trEs m ⟨["bounds","k"],Ba v,l,r,true⟩ [T]=some s1)(Y:trEs m ⟨["bounds","k"],Ba v,l,r,true⟩ [U]=some s2)(n1:Bd T=true)(n2:Bd U=true)
 (hg:CO ⟨["bounds","k"],Ba v,l,r,true⟩ "set_closing" = true)(G:GSp P w K mg base k "set_closing" (cn K W))(hd:Deps P w K mg base k Γ l r true)
 (Z:∀g h j,Θ g h j -> -(2^63)<=h/\h<2^63/\∃n T1 I d1 T2 O d2,seqIndex? h g.length=some n/\n<g.length /\
   evs Γ s1 [some (.lst (Dg (g.eraseIdx n))),some (.int h)]=some [T1]/\W T1 I d1/\lf d1=true/\I∈(g.eraseIdx n).map (·.1) /\
   evs Γ s2 [some (.lst (Dg (setC (g.eraseIdx n) I d1))),some (.int h)]=some [T2]/\W T2 O d2/\lf d2=true/\O∈(g.eraseIdx n).map (·.1)/\j=setC (setC (g.eraseIdx n) I d1) O d2):
  FnOk P w K mg base C3 (k+1) f fd ["bounds","k"] (fu K Θ):=by
 refine Fn.ok S (λvs H Q E ⟨F,L,g,h,j,h1,_⟩=>by rw[h1];rfl) (λa0 A outer s H vs Q E hr ⟨F,L,g,h,j,h1,h2,C,h4,h5⟩=>?_);have hX:=gk (CX:=C3) (E:=E) (outer:=outer) (H:=H) S hd hr;subst h1;obtain⟨b1,b2,n,T1,I,d1,T2,O,d2,g1,g2,g3,g4,g5,g6,g7,g8,g9,a3,rfl⟩:=Z g h j h4
 rw[hb];have J:∀y∈(["bounds","k"]:List Str),DX (Dd C3 P w K mg base ["bounds","k"] u (Ba v) f a0 A outer s H E).nox.env.scope y:=λy hy=>.inl (hl y hy)
 refine⟨_,Bz (fP (iv Jf PySem.F.slot_list_pop PySem.F.type_list_pop rQ (bA (i:=0) rfl (J "bounds" vA)) (cc (bA (i:=1) rfl (J "k" vA)) cJ (Bj rfl)) rfl (by rw[Bj rfl];rfl) B (Bj rfl) rfl) rfl)
  (Bz (lE (k:=k) hX.toXE hr X n1 hg G) (dr (lE (k:=k) hX.toXE hr Y n2 hg G))),?_⟩
 have hx:(g.map λo=>V.ref o.1)[n]? = some (V.ref (g[n]'g2).1):=by rw[Zm,Zj g2];rfl
 refine⟨_,rfl,.inl ⟨rfl,_,SqL.of C.hL⟩,.int h,rfl,L,_,h,n,_,rfl,rfl,C.hL,b1,b2,by rw[Zc];exact g1,hx,?_⟩
 rw[oQ];have O1:=C.erase n;have F1:Same F (upd H L (.lst ((g.eraseIdx n).map λo=>.ref o.1))):=λb o e=>by
  rw[Bg (λz=>by subst z;rw[C.fL] at e;cases e)];exact h2 b o e
 have B1:BS K F (upd H L (.lst ((g.eraseIdx n).map λo=>.ref o.1))) (L2.start ["bounds","k"] [.ref L,.int h]) [none,some (.int h)] L (g.eraseIdx n) 0:=by
  refine⟨⟨F1,λi d e=>?_,rfl⟩,O1,rfl,rfl⟩
  match i,e with
  |1,e=>
   cases e;exact⟨_,rfl,Den.int_mk⟩
 have K1:Kp H F (Tr L g) F (upd H L (.lst ((g.eraseIdx n).map λo=>.ref o.1))):=⟨Same.refl _,λ_ _ e=>.inl e,λb o e nt=>by rw[Bg λz=>nt (.inl z)];exact e⟩;have trS:∀b,Tr L (g.eraseIdx n) b->Tr L g b:=λb t=>t.imp id λt=>((Vu g n).map _).subset t
 refine B1.setc g3 g4 g5 g6 λH2 F2 B2 k2=>?_;have M:∀b,Tr L g b->F2 b=none:=λb t=>by
  cases q:F2 b with
  |none=>rfl
  |some o=>
   rcases k2.new b o q with z|z
   ·rw[C.none t] at z;cases z
   ·have:=C.at t
    by_cases R:b=L
    ·subst R;rw[Bh] at z;cases z
    ·rw[Bg R] at z;rcases this with⟨_,y⟩|⟨_,_,_,y⟩<;>(rw[y] at z;cases z)
 have K2:=K1.trans k2 trS M;refine B2.setc g7 g8 g9 (by rw[lD];exact a3) λH3 F3 B3 k3=>?_;have N:∀b,Tr L g b->F3 b=none:=λb t=>by
  cases q:F3 b with
  |none=>rfl
  |some o=>
   rcases k3.new b o q with z|z
   ·rw[M b t] at z;cases z
   ·by_cases t2:Tr L (g.eraseIdx n) b
    ·have:=B2.ob.at (setC_tr.mpr t2)
     rcases this with⟨_,y⟩|⟨_,_,_,y⟩<;>(rw[y] at z;cases z)
    ·have R:b≠L:=λz=>t2 (.inl z)
     rcases C.at t with⟨_,y⟩|⟨_,_,_,y⟩<;>(rw[<-Bg (H:=H) (o:=.lst ((g.eraseIdx n).map λo=>.ref o.1)) R] at y;rw[k2.hs b _ y t2] at z;cases z)
 exact h5 H3 F3 B3.ss.sub (K2.trans k3 (λb t=>trS b (setC_tr.mp t)) N) N B3.ob
end
open PySem L2 PyProof.Rows
structure KnB(H0 F0 F H:Hp):Prop where
 fs:Same F0 F
 new:∀b o,F b=some o->F0 b=some o\/H0 b=none
 hs:Same H0 H
def KnB.step{H0 F0 d g f i:Hp}(k:KnB H0 F0 d g)(s:Same d f)(n:∀b o,f b=some o->d b=some o\/g b=none)(h:Same H0 i):KnB H0 F0 f i:=
 ⟨k.fs.trans s,λb o e=>(n b o e).elim (k.new b o) λz=>.inr (k.hs.free z),h⟩
section
variable{K:vE}{F H:Hp}{L:Addr}{os:List (Addr×List D)}
def Obs.add(O:Obs K F H L os)(v:Same F H){C x g:Addr}{j m n:V}{p s l:D}(A:PySem.W.nsIn K mainGlobals "Bound" = some (some (.ref C)))(w:H x=Option.none)(r:H g=Option.none)(ne:g≠x)
 (E:Den K F p j)(G:Den K F s m)(I:Den K F l n){q:Hp}(e:q=upd (upd (upd H g (.own x)) x (.ins C g [("place",j),("side",m),("least",n),("closing", .non)])) L (.lst ((os.map λo=>.ref o.1)++[.ref x]))):
  Obs K F q L (os++[(x,[p,s,l,.non])])/\Same F q/\(∀b o,H b=some o->b≠L->q b=some o):=by
 subst e;have t:∀b o,H b=some o->b≠x:=λb o e z=>by rw[z,w] at e;cases e
 have J:∀b o,H b=some o->b≠g:=λb o e z=>by rw[z,r] at e;cases e
 have f:∀b o,H b=some o->b≠L->upd (upd (upd H g (.own x)) x (.ins C g [("place",j),("side",m),("least",n),("closing", .non)])) L (.lst ((os.map λo=>.ref o.1)++[.ref x])) b=some o:=λb o e M=>by
  rw[Bg M,Bg (t b o e),Bg (J b o e)];exact e
 have N:x≠L:=λz=>t L _ O.hL z.symm
 have P:F x=Option.none:=v.free w;refine⟨⟨?_,O.fL,λo i=>?_,?_⟩,λb o e=>f b o (v b o e) (λz=>by rw[z,O.fL] at e;cases e),f⟩
 ·rw[Bh,Yl];rfl
 ·rcases Yw.mp i with i|i
  ·have B:=O.ob o i;refine B.move (Same.refl _) B.1 ?_;obtain⟨_,Q,u,R,S,T,U,c,h,d⟩:=B
   rw[h];exact f _ _ h (λz=>by rw[z,O.hL] at h;cases h)
  ·have:=Zx.mp i
   subst this;exact⟨P,C,g,j,m,n,.non,A,by rw[Bg N,Bh],DenL.cons E (DenL.cons G (DenL.cons I (DenL.cons Den.non_mk DenL.nil)))⟩
 ·rw[Yl];refine Us.mpr ⟨O.nd,Wx _ _,λa X b Y z=>?_⟩;have:=Zx.mp Y
  subst this;obtain⟨o,Z,h2⟩:=Zt.mp X
  obtain⟨_,Q,u,R,S,T,U,c,h,d⟩:=O.ob o Z
  exact t _ _ h (h2.trans z)
end
structure MkB(P:Program)(w:World)(K:vE)(mg:Str->Option Value)(base:Heap)(k:Nat):Prop where
 ex:∃C f fd ps,PySem.W.nsIn K mainGlobals "Bound" = some (some (.ref C))/\mg "Bound" = some (.ref C)/\Mk K C f/\FnOk P w K mg base C3 k f fd ps (lB K)/\Binds K fd ps []
def rB(d d1:D)(e f g h:Option D):CF:=[some d,some d1,none,e,f,g,h]
def NB:List Str:=["one","other","bounds","place","side","least","k"]
structure FB(K:vE)(H0 F0 F H:Hp)(σ:L2.St)(ρ:CF)(L:Addr)(os:List (Addr×List D)):Prop where
 bs:BS K F H σ ρ L os 2
 kn:KnB H0 F0 F H
 fr:∀b,Tr L os b->H0 b=none
section
variable{K:vE}{H0 F0 F H:Hp}{σ:L2.St}{ρ:CF}{L:Addr}{os:List (Addr×List D)}{Γ:Nat->∅}
def FB.more(B:FB K H0 F0 F H σ ρ L os){d e:Hp}(s:Same F d)(f:Same d e)(n:∀b o,d b=some o->F b=some o\/H b=none)(h:Same H e):FB K H0 F0 d e σ ρ L os:=by
 refine⟨⟨B.bs.ss.mono s f,B.bs.ob.move s (λb t=>?_) (λb t=>?_),B.bs.hb,B.bs.nb⟩,B.kn.step s n (B.kn.hs.trans h),B.fr⟩
 ·cases q:d b with
  |none=>rfl
  |some o=>
   rcases n b o q with z|z
   ·rw[B.bs.ob.none t] at z;cases z
   ·rcases B.bs.ob.at t with⟨_,y⟩|⟨_,_,_,y⟩<;>(rw[y] at z;cases z)
 ·rcases B.bs.ob.at t with⟨_,y⟩|⟨_,_,_,y⟩<;>(rw[y];exact h _ _ y)
theorem FB.set(B:FB K H0 F0 F H σ ρ L os){i:Nat}{d:D}{v:V}(e:i<ρ.length)(f:i≠2)(q:Den K F d v):FB K H0 F0 F H (σ.set i (some v)) (ρ.set i (some d)) L os:=⟨B.bs.set e f q,B.kn,B.fr⟩
def FB.ex(B:FB K H0 F0 F H σ ρ L os){e:E}{d:D}{Q:VK}(h:ev Γ e ρ=some (.val d))(k:∀v g f,Same F f->FB K H0 F0 f g σ ρ L os->Den K f d v->Q v g):IG Γ K e σ H Q:=
 ⟨_,_,_,B.bs.ss,h,λv g f s R q=>k v g f s (B.more s R.sub R.new R.same) q⟩
theorem FB.setc(B:FB K H0 F0 F H σ ρ L os){i:D->Addr->D->Prop}{j:Es}{T d:D}{a:Addr}{E:XK}{Q:VK}(l:evs Γ j (CL ρ 2 os)=some [T])(m:i T a d)(n:lf d=true)(p:a∈os.map (·.1))
 (k:∀f g,FB K H0 F0 g f σ ρ L (DL.setC os a d)->Q .non f):dQ (cn K i) [] E (EA Γ K j) σ H Q:=
 B.bs.setc l m n p λf g q h=>k f g ⟨q,B.kn.step h.fs h.new (λb o e=>h.hs b o (B.kn.hs b o e) λt=>by rw[B.fr b t] at e;cases e),λb t=>B.fr b (setC_tr.mp t)⟩
theorem FB.add(B:FB K H0 F0 F H σ ρ L os){C:Addr}{p s l:D}{E:XK}{g:Ends}(h:PySem.W.nsIn K mainGlobals "Bound" = some (some (.ref C)))(r:ρ[3]? = some (some p))(u:ρ[4]? = some (some s))(v:ρ[5]? = some (some l))(w:os.length<sizeLine)
 (k:∀i x,FB K H0 F0 F i σ ρ L (os++[(x,[p,s,l,.non])])->g.nx σ i):
  ie (tBM K "list" m9 (Dh 2) (cy (EU C (lB K) [] E (cy (Dh 3) (cy (Dh 4) (cy (Dh 5) D1)))) D1)) g σ H:=by
 obtain⟨j,A,G⟩:=B.bs.ss.env 3 _ r
 obtain⟨v1,I,J⟩:=B.bs.ss.env 4 _ u
 obtain⟨m,M,N⟩:=B.bs.ss.env 5 _ v
 refine⟨_,B.bs.hb,.inl ⟨rfl,_,SqL.of B.bs.ob.hL⟩,j,A,v1,I,m,M,λx n f d O=>?_⟩
 refine⟨x,C,n,j,v1,m,rfl,h,Bh,rfl,?_⟩
 have q:L≠x:=λz=>by have:=B.bs.ob.hL;rw[z,f] at this;cases this
 have P:L≠n:=λz=>by have:=B.bs.ob.hL;rw[z,d] at this;cases this
 refine⟨L,_,.ref x,rfl,rfl,by rw[Bg q,Bg q,Bg P];exact B.bs.ob.hL,by rw[Zc];exact w,?_⟩
 rw[ia];obtain⟨Q,R,S⟩:=B.bs.ob.add B.bs.ss.sub h f d O G J N rfl
 refine k _ x ⟨⟨B.bs.ss.mono (Same.refl _) R,Q,B.bs.hb,B.bs.nb⟩,⟨B.kn.fs,B.kn.new,λb o e=>S b o (B.kn.hs b o e) λz=>?_⟩,λb t=>?_⟩
 ·rw[z,B.fr L (.inl rfl)] at e;cases e
 ·rcases t with t|t
  ·exact B.fr b (.inl t)
  ·rw[Yl] at t;rcases Yw.mp t with t|t
   ·exact B.fr b (.inr t)
   ·have:=Zx.mp t
    rw[this];exact B.kn.hs.free f
end
open PySem L2 PyProof.Rows
def D2(K:vE)(j:D->D->List (List D)->Prop):Sp:=λl H Q _=>∃F g h i,Same F H/\DenL K F [g,h] l/\j g h i /\
 ∀L e d f,Same f d->KnB H F f d->Obs K f d L e->e.map (·.2)=i->(∀b,Tr L e b->H b=none)->Q (.ref L) d
def lF(Γ:Nat->∅)(f:D->Addr->D->Prop)(g d1:D)(h:Es)(n:Nat)(i:List Addr)(j l1:List (List D)):Prop:=∃e:Nat->List (Addr×List D),(e 0).map (·.1)=i/\(e 0).map (·.2)=j/\(e n).map (·.2)=l1 /\
 ∀k,k<n->∃T a d,(∀l m o,evs Γ h (CL (rB g d1 l m o (some (.int (k:Int)))) 2 (e k))=some [T])/\f T a d/\lf d=true/\a∈(e k).map (·.1)/\e (k+1)=setC (e k) a d
def os_eq{l m:List (Addr×List D)}(d:l.map (·.1)=m.map (·.1))(e:l.map (·.2)=m.map (·.2)):l=m:=by
 apply Qv
 intro i;have a:=congrArg (λz=>z[i]?) d;have b:=congrArg (λz=>z[i]?) e;simp only[Zm] at a b;cases p:l[i]? with
 |none=>rw[p] at a;cases q:m[i]? with
  |none=>rfl
  |some y=>rw[q] at a;cases a
 |some x=>rw[p] at a b;cases q:m[i]? with
  |none=>rw[q] at a;cases a
  |some y=>
   rw[q] at a b;have f:x.1=y.1:=Zs a;have g:x.2=y.2:=Zs b;rw[show x=y from Yt f g]
def EX{K:vE}{F H:Hp}{g:L2.St}{f:CB}(S:SS K F H g (view f))(n:∀(i:Nat) l,f[i]? ≠ some (some (.ow l))):SR K H F F H g f:=
 ⟨S.sub,Same.refl _,Same.refl _,λ_ _ e=>.inl e,λi d e=>S.env i d (by unfold view;rw[Zm,e];rfl),λi l e=>absurd e (n i l),λi j l m a e=>absurd e (n i l),by have:=S.len;unfold view at this;rwa [Zc] at this⟩
def FB.read{K:vE}{H0 F0 F H:Hp}{σ:L2.St}{ρ:CF}{L:Addr}{os:List (Addr×List D)}(B:FB K H0 F0 F H σ ρ L os){d e:Hp}(s:Same (snap F H L os) d)(R:ER K H (snap F H L os) d e σ (CL ρ 2 os)):FB K H0 F0 (bare d L os) e σ ρ L os:=by
 obtain⟨f,k⟩:=B.bs.back s R
 exact⟨f,B.kn.step k.fs k.new (B.kn.hs.trans R.same),B.fr⟩
section
variable{P:Program}{w:World}{K:vE}{mg:Str->Option Value}{base:Heap}{Γ:Nat->∅}
def vR{x X:Str}{V:Stmt}{f:Addr}{fd:FuncData}{k m:Nat}{n B:List (Str×Nat×Nat)}{Y N e3 ln:Expr}{it:It'}{le:E}{s3 sl:Es}{a1 a2 a3 b1 b2 b3 b4 b5 b6 b7 b8 b9 c1 c2 c3 c4 c5 c6 c7 c8 c9 g1 g2 g3 g4 h1 h2:Pos}{bk}{Ψ:D->Addr->D->Prop}{Ξ:D->D->List (List D)->Prop}
 (Fn:Fun K x X V f fd)(S:FnScope NB ["one","other"] (Ba V))
 (hb:Bc V=[.Assign [.Name "bounds" a1] (.List [] a2) a3,
   .For (.Tuple [.Name "place" b1,.Name "side" b2] bk b3) Y [.Assign [.Name "least" b4] N b5,.Expr (.Call (.Attribute (.Name "bounds" b6) "append" b7) [.Call (.Name "Bound" c1) [.Name "place" c2,.Name "side" c3,.Name "least" c4] [] c5] [] b8) b9] [] c6,
   .For (.Name "k" g1) (.Call (.Name "range" g2) [ln] [] g3) [.Expr (.Call (.Name "set_closing" c7) [e3] [] c8) c9] [] g4,
   .Return (some (.Name "bounds" h1)) h2])
 (a6:(b7.endLine == b8.line)=true)(hl:∀y∈NB,(Ba V).names.lookup y=some .local)
 (ah:trI1 (trE m ⟨NB,Ba V,n,B,true⟩) ⟨NB,Ba V,n,B,true⟩ (.Tuple [.Name "place" b1,.Name "side" b2] bk b3) Y=some it)
 (ai:trE m ⟨NB,Ba V,n,B,true⟩ N=some le)(aj:∀env,swapsWith N (some (.Name "least" b4)) b5.line env=pure false)
 (ak:∀env x,foldedSetIterable Y env x=pure x)
 (am:trEs m ⟨NB,Ba V,n,B,true⟩ [e3]=some s3)(n3:Bd e3=true)(an:trEs m ⟨NB,Ba V,n,B,true⟩ [ln]=some sl)(nl:Bd ln=true)
 (hg:CO ⟨NB,Ba V,n,B,true⟩ "set_closing" = true)(ao:CO ⟨NB,Ba V,n,B,true⟩ "range" = true)(ap:CO ⟨NB,Ba V,n,B,true⟩ "Bound" = true)(aq:mg "range" = none)
 (G:GSp P w K mg base k "set_closing" (cn K Ψ))(M:MkB P w K mg base k)(hd:Deps P w K mg base (k+1) Γ n B true)
 (ar:∀h d1 ls,Ξ h d1 ls->∃g U,g.length<1000/\evI Γ it [~~~h,~~~d1,none,none,none,none,none]=some (g,[~~~h,~~~d1,none,none,none,none,none])/\U.length=g.length /\
   (∀(i:Nat) (d:D),g[i]? = some d->∃p s l,d=D.tup [p,s]/\U[i]? = some [p,s,l,.non]/\∀W,ev Γ le (rB h d1 (some p) (some s) W none)=some (.val l)) /\
   (∀x3 x4 W O,O.length=g.length->evs Γ sl (CL (rB h d1 x3 x4 W none) 2 O)=some [.int (O.length:Int)]) /\
   ∀as,as.Nodup->as.length=g.length->lF Γ Ψ h d1 s3 g.length as U ls):
  FnOk P w K mg base C3 (k+1+1) f fd ["one","other"] (D2 K Ξ):=by
 refine Fn.ok S (λvs H Q E ⟨F,h,d1,ls,h1,h2,_⟩=>by rw[h2.length];rfl) (λa7 A outer s H vs Q E hr ⟨F,h,d1,ls,h1,h2,h3,h4⟩=>?_);have hX:=gk (CX:=C3) (E:=E) (outer:=outer) (H:=H) S hd hr;obtain⟨v0,ax,rfl,q0,h2⟩:=h2.inv_cons
 obtain⟨v1,ay,rfl,q1,h2⟩:=h2.inv_cons
 have:=h2.inv_nil
 subst this;obtain⟨g,U,i1,i2,i3,i4,i5,i6⟩:=ar h d1 ls h3
 obtain⟨C,fI,az,aA,m1,m2,m3,m4,m5⟩:=M.ex
 rw[hb];have a4:∀y∈NB,Loc (Dd C3 P w K mg base NB X (Ba V) f a7 A outer s H E).nox.env.scope y:=λy hy=>.inl (hl y hy)
 have a5:∀y∈NB,DX (Dd C3 P w K mg base NB X (Ba V) f a7 A outer s H E).nox.env.scope y:=λy hy=>.inl (hl y hy)
 obtain⟨au,aB⟩:=cK hX.toXE ap
 obtain⟨av,aC⟩:=cK hX.toXE ao
 have nd:=S.nd;have aw:PI (Dd C3 P w K mg base NB X (Ba V) f a7 A outer s H E).nox (.Tuple [.Name "place" b1,.Name "side" b2] bk b3) Y (λσ H R=>∃F,SR K H F F H σ [~~~h,~~~d1,none,none,none,none,none]/\∀J Z F',Same F F'->SR K H F F' Z σ [~~~h,~~~d1,none,none,none,none,none]->Walks K F' J g->R J Z):=
  λpins s' σ H R I ⟨F,q⟩=>(oo hX ah i2).1 H F pins s' σ H R I ⟨F,q⟩
 refine⟨_,Bz (eP (i:=2) nd rfl (a4 "bounds" vA) (kj cJ) rfl (.inr (hl _ vA)))
  (Bz (kg hX.po hX.calm aw (kb hX.calm (ij (fR (i:=3) nd rfl (a4 "place" vA) (.inr (hl _ vA))) (ij (fR (i:=4) nd rfl (a4 "side" vA) (.inr (hl _ vA))) ka)))
   (Bz (eP (i:=5) nd rfl (a4 "least" vA) (lA hX.toXE ai) (aj _) (.inr (hl _ vA)))
    (dr (fP (iv Jf slot_list_append PySem.F.type_list_append kl (bA (i:=2) rfl (a5 "bounds" vA))
     (cc (rq (E:=E0) m3 m4 hr au m2 m5 .nil iw (cc (bA (i:=3) rfl (a5 "place" vA)) (cc (bA (i:=4) rfl (a5 "side" vA)) (cc (bA (i:=5) rfl (a5 "least" vA)) cJ)))) cJ) rfl rfl a6 rfl rfl) rfl))) (ak _))
  (Bz (kg hX.po hX.calm (kf av aq (E9 hX.toXE an) (Bj nl)) (fR (i:=6) nd rfl (a4 "k" vA) (.inr (hl _ vA))) (dr (lE (k:=k) hX.toXE (hr.mono (Uc _)) am n3 hg G)))
  (dr (ig (bA (i:=2) rfl (a5 "bounds" vA)))))),?_⟩
 refine⟨Y8 _,λL hL=>?_⟩
 have aa:F L=none:=h1.free hL;have S0:SS K F (upd H L (.lst [])) [some v0,some v1,some (.ref L),none,none,none,none] (rB h d1 none none none none):=by
  refine⟨λb o e=>?_,λi d e=>?_,rfl⟩
  ·rw[Bg (λz=>by rw[z,aa] at e;cases e)];exact h1 b o e
  ·match i,e with
   |0,e=>cases e;exact⟨_,rfl,q0⟩
   |1,e=>cases e;exact⟨_,rfl,q1⟩
   |2,e=>cases e
   |3,e=>cases e
   |4,e=>cases e
   |5,e=>cases e
   |6,e=>cases e
   |i+7,e=>cases e
 have B0:FB K H F F (upd H L (.lst [])) [some v0,some v1,some (.ref L),none,none,none,none] (rB h d1 none none none none) L []:=
  ⟨⟨S0,⟨Bh,aa,(λo ho=>by cases ho),Vi⟩,rfl,rfl⟩,⟨Same.refl _,λ_ _ e=>.inl e,bU hL⟩,λb t=>by
   rcases t with t|t
   ·rw[t];exact hL
   ·cases t⟩
 have R0:SR K (upd H L (.lst [])) F F (upd H L (.lst [])) [some v0,some v1,some (.ref L),none,none,none,none] [~~~h,~~~d1,none,none,none,none,none]:=EX S0 (λi l e=>by
  match i,e with
  |0,e=>cases e
  |1,e=>cases e
  |2,e=>cases e
  |3,e=>cases e
  |4,e=>cases e
  |5,e=>cases e
  |6,e=>cases e
  |i+7,e=>cases e)
 refine⟨F,R0,λJ H1 F1 s1 S1 wk=>?_⟩
 have B1:=B0.more s1 S1.sub S1.new S1.same;refine⟨λi m a0 Z=>m=g.length-i/\i<=g.length/\∃F2 O x3 x4 W,Same F1 F2/\FB K H F F2 Z a0 (rB h d1 x3 x4 W none) L O/\O.map (·.2)=U.take i,⟨_,rfl,Y8 _,F1,[],none,none,none,Same.refl _,B1,rfl⟩,?_⟩
 rintro i mm a8 H2 ⟨rfl,aD,F2,O,x3,x4,W,s2,B2,ho⟩
 have ab:=wk i H2 (s2.trans B2.bs.ss.sub);by_cases ae:i<g.length
 ·have hd:=Zj ae;obtain⟨go,yl⟩:=ab.1 _ hd
  obtain⟨p,s,l,e1,e2,e3⟩:=i4 i _ hd
  refine .inr ⟨go,λa0 Z=>∃F2 O x3 x4 W,Same F1 F2/\FB K H F F2 Z a0 (rB h d1 x3 x4 W none) L O/\O.map (·.2)=U.take (i+1),λa0 Z z=>⟨g.length-(i+1),by omega,rfl,ae,z⟩,λx Z y=>?_⟩;obtain⟨F3,s3,B3,q3⟩:∃F3,Same F2 F3/\FB K H F F3 Z a8 (rB h d1 x3 x4 W none) L O/\Den K F3 g[i] x:=by
   rcases yl x Z y with⟨e,q⟩|⟨pp,xs,ds,hp,e,ex,ed,q⟩
   ·subst e;exact⟨F2,Same.refl _,B2,q.mono s2⟩
   ·subst e ex;have fp:F2 pp=none:=B2.bs.ss.sub.free hp;have sp:=bU (o:=.tup xs) fp;refine⟨_,sp,B2.more sp (λb o e=>?_) (λb o e=>?_) (bU hp),?_⟩
    ·by_cases z:b=pp
     ·subst z;rw[Bh] at e |-;exact e
     ·rw[Bg z] at e |-;exact B2.bs.ss.sub b o e
    ·by_cases z:b=pp
     ·subst z;exact .inr hp
     ·rw[Bg z] at e;exact .inl e
    ·rw[ed];exact Den.tup_mk (SqT.of Bh) ((q.mono s2).mono sp)
  rw[e1] at q3;obtain⟨a,xs,ex,sq,r⟩:=q3.tup
  obtain⟨u0,r0,rfl,r1,r⟩:=r.inv_cons
  obtain⟨u1,r2,rfl,r3,r⟩:=r.inv_cons
  have:=r.inv_nil
  subst this;refine⟨a,[u0,u1],ex,Same.tup B3.bs.ss.sub sq,rfl,u0,[u1],rfl,u1,[],rfl,rfl,?_⟩
  have B4:FB K H F F3 Z ((a8.set 3 (some u0)).set 4 (some u1)) (rB h d1 (some p) (some s) W none) L O:=(B3.set (i:=3) (by show 3<7;decide) vA r1).set (i:=4) (by show 4<7;decide) vA r3;refine B4.ex (e3 W) λv H5 F5 s5 B5 q5=>?_;have B6:FB K H F F5 H5 (((a8.set 3 (some u0)).set 4 (some u1)).set 5 (some v)) (rB h d1 (some p) (some s) (some l) none) L O:=B5.set (i:=5) (by show 5<7;decide) vA q5;have ln:O.length=(U.take i).length:=by rw[<-ho,Zc]
  refine B6.add m1 rfl rfl rfl ?_ λH7 x7 B7=>?_
  ·rw[ln,Wb];exact Wg (Nat.min_le_left _ _) (rW vB)
  ·refine⟨F5,_,_,_,_,(s2.trans s3).trans s5,B7,?_⟩
   rw[Yl,ho,Jz,e2];rfl
 ·have e:i=g.length:=by omega
  subst e;refine .inl ⟨ab.2 (Zn _),?_⟩;have af:O.map (·.2)=U:=by rw[ho,<-i3,Jl]
  have ln:O.length=g.length:=by rw[<-i3,<-af,Zc]
  refine⟨_,_,_,B2.bs.snap,i5 x3 x4 W O ln,λvs H3 F3 s3 R3 q3=>?_⟩
  obtain⟨u,us,rfl,r1,r⟩:=q3.inv_cons
  have:=r.inv_nil
  subst this;have:=r1.int
  subst this;refine⟨_,rfl,by omega,by omega,?_⟩
  have B3:=B2.read s3 R3;obtain⟨a9,o1,o2,o3,o4⟩:=i6 (O.map (·.1)) B2.bs.ob.nd (by rw[Zc];exact ln)
  have e0:a9 0=O:=os_eq o1 (o2.trans af.symm);rw[Zz,ln];refine qS (λi a0 Z=>∃F' x6,FB K H F F' Z a0 (rB h d1 x3 x4 W x6) L (a9 i)) ⟨_,none,by rw[e0];exact B3⟩ (λj ag H4 hj ⟨F4,x6,B4⟩=>?_) (λag H4 ⟨F4,x6,B4⟩=>?_)
  ·obtain⟨T,a,d,t1,t2,t3,t4,t5⟩:=o4 j hj
   have B5:FB K H F F4 H4 (ag.set 6 (some (.int (0+(j:Int))))) (rB h d1 x3 x4 W (some (.int (j:Int)))) L (a9 j):=by
    rw[Ux];exact B4.set (i:=6) (by show 6<7;decide) vA Den.int_mk
   exact B5.setc (t1 x3 x4 W) t2 t3 t4 λH6 F6 B6=>⟨F6,_,by rw[t5];exact B6⟩
  ·exact⟨_,B4.bs.hb,h4 L _ H4 F4 B4.bs.ss.sub B4.kn B4.bs.ob o3 B4.fr⟩
end
open PySem L2 PyProof.Rows
def rF(d d1:D)(e:Option D)(n:Nat):CF:=some d::some d1::none::e::List.replicate n none
def IU(d d1:D)(b k:D)(n:Nat):CB:= ~~~d::~~~d1::~~~b::~~~k::List.replicate n none
def ET(Γ:Nat->∅)(K:vE)(g:Ss):TS:=λD h H=>∃F e w,SR K H F F H h e/\exs Γ g e=some (.rt w)/\∀v d f,RT H F f d->RW K H f d w v->D.rt v d
section
variable{X:Cx}{c:TC}{Γ:Nat->∅}
def vS(g:XC X c Γ){m:Nat}{d:List Stmt}{f:Ss}(h:trSs m c d=some f):PSs X d (ET Γ X.K f):=λpins s i H D I ⟨F,j,w,S,e,k⟩=>
 (kQ g m).2 _ _ _ _ h e H F pins s i H D I ⟨F,S,k⟩
end
section
variable{K:vE}{H0 F0 F H:Hp}{σ:L2.St}{ρ:CF}{L:Addr}{os:List (Addr×List D)}{Γ:Nat->∅}
def FB.leave(B:FB K H0 F0 F H σ ρ L os){g f:Hp}{w:W}{v:V}{Q:VK}(T:RT H (snap F H L os) g f)(q:RW K H g f w v)
 (k:∀v f g,Same H0 f->Same F0 g->Same g f->(∀a o,g a=some o->F0 a=some o\/H0 a=none)->RW K H0 g f w v->Q v f):Q v f:=by
 refine k v f g (B.kn.hs.trans T.same) ((B.kn.fs.trans B.bs.ob.same).trans T.base) T.sub (λa o e=>?_) ?_
 ·rcases T.new a o e with z|z
  ·by_cases t:Tr L os a
   ·exact .inr (B.fr a t)
   ·unfold snap at z;rw[if_neg t] at z;exact B.kn.new a o z
  ·exact .inr (B.kn.hs.free z)
 ·cases w with
  |val d=>exact q
  |new l=>
   obtain⟨a,h,e,i,j,m,n⟩:=q
   exact⟨a,h,e,i,B.kn.hs.free j,m,n⟩
def FB.exr(B:FB K H0 F0 F H σ ρ L os){e:E}{d:D}{Q:VK}(h:ev Γ e (CL ρ 2 os)=some (.val d))(i:lf d=true)
 (k:∀v f g,FB K H0 F0 g f σ ρ L os->Den K g d v->Q v f):IG Γ K e σ H Q:=
 ⟨_,_,_,B.bs.snap,h,λv f g s R q=>k v f _ (B.read s R) (Den.shrink (oP B.bs.ob s) d i q)⟩
def FB.exT(B:FB K H0 F0 F H σ ρ L os){e:E}{t:Bool}{Q:Bool->Hp->Prop}(h:((ev Γ e (CL ρ 2 os)).map W.d).bind bp=some t)
 (k:∀f g,FB K H0 F0 g f σ ρ L os->Q t f):IF Γ K e σ H Q:=
 ⟨_,_,_,B.bs.snap,h,λf g s R=>k f _ (B.read s R)⟩
def FB.drop(B:FB K H0 F0 F H σ ρ L os){n:List (Addr×List D)->Int->List (Addr×List D)->Prop}{j:Int}{f:List (Addr×List D)}{p:E}{d:D}{r:Ends}{E:XK}(s:ρ[3]? = some (some (.int j)))(l:n os j f)(u:∀a∈f.map (·.1),a∈os.map (·.1))
 (w:ev Γ p (CL ρ 2 f)=some (.val d))(z:lf d=true)(k:∀g h m,FB K H0 F0 m h g (ρ.set 3 (some d)) L f->r.nx g h):
  IA (ie (dQ (fu K n) [] E (cy (Dh 2) (cy (Dh 3) D1)))) (Ee (IG Γ K p) (fQ 3)) r σ H:=by
 obtain⟨v,v1,A⟩:=B.bs.ss.env 3 _ s
 have:=A.int
 subst this;refine⟨_,B.bs.hb,_,v1,F,L,os,j,f,rfl,B.bs.ss.sub,B.bs.ob,l,λC G I i O J=>?_⟩
 have M:FB K H0 F0 G C σ ρ L f:=⟨⟨B.bs.ss.mono i.fs I,J,B.bs.hb,B.bs.nb⟩,B.kn.step i.fs i.new (λb o e=>i.hs b o (B.kn.hs b o e) λt=>by rw[B.fr b t] at e;cases e),λb t=>B.fr b (t.imp id (u b))⟩;exact M.exr w z λv h m N q=>k _ h m (N.set (lC s) vA q)
def FB.start{z:D->D->List (List D)->Prop}{m o:V}{f d1 d:D}{n:Nat}{j:List (List D)}{A:E}{E:XK}{p:Ends}(G:Same F H)(g:DenL K F [f,d1] [m,o])(r:z f d1 j)
 (I:∀os:List (Addr×List D),os.map (·.2)=j->(os.map (·.1)).Nodup->ev Γ A (CL (rF f d1 none n) 2 os)=some (.val d))(J:lf d=true)
 (k:∀h l s L os,os.map (·.2)=j->FB K H F s l h (rF f d1 (some d) n) L os->p.nx h l):
  Ee (dQ (D2 K z) [] E (cy (Dh 0) (cy (Dh 1) D1))) (fQ 2) {p with nx:=Ee (IG Γ K A) (fQ 3) p} (some m::some o::none::none::List.replicate n none) H:=by
 refine⟨_,rfl,_,rfl,F,f,d1,j,G,g,r,λL os M N O t B C P=>?_⟩
 obtain⟨W,Q,u,R,g⟩:=g.inv_cons
 cases u;obtain⟨X,Q,u,S,g⟩:=g.inv_cons
 cases u;have T:FB K H F N M (some m::some o::some (.ref L)::none::List.replicate n none) (rF f d1 none n) L os:=by
  refine⟨⟨⟨O,λi d e=>?_,by simp[rF]⟩,B,rfl,rfl⟩,t,P⟩
  match i,e with
  |0,e=>cases e;exact⟨_,rfl,R.mono t.fs⟩
  |1,e=>cases e;exact⟨_,rfl,S.mono t.fs⟩
  |2,e=>cases e
  |3,e=>cases e
  |i+4,e=>
   have w:(List.replicate n (none:Option D))[i]? = some (some d):=e;rw[Wf] at w;split at w<;>cases w
 exact T.exr (I os C B.nd) J λv l s U q=>k _ l s L os C (U.set (i:=3) (by simp[rF]) vA q)
def FB.tail{f d1 g:D}{n:Nat}{bs:Ss}{w:W}{Q:VK}{r:Ends}(B:FB K H0 F0 F H σ (rF f d1 (some g) n) L os)(s:exs Γ bs (IU f d1 (.lst (Dg os)) g n)=some (.rt w))(m:r.rt=Q)
 (k:∀v h j,Same H0 h->Same F0 j->Same j h->(∀a o,j a=some o->F0 a=some o\/H0 a=none)->RW K H0 j h w v->Q v h):ET Γ K bs r σ H:=by
 refine⟨snap F H L os,IU f d1 (.lst (Dg os)) g n,w,EX ?_ ?_,s,λv h j T q=>?_⟩
 ·have:=B.bs.snap
  have e:view (IU f d1 (.lst (Dg os)) g n)=CL (rF f d1 (some g) n) 2 os:=by
   unfold view IU CL rF;simp[DL.B.d]
  rw[e];exact this
 ·intro i l e;match i,e with
  |0,e=>cases e
  |1,e=>cases e
  |2,e=>cases e
  |3,e=>cases e
  |i+4,e=>
   have p:(List.replicate n (none:Option DL.B))[i]? = some (some (.ow l)):=e;rw[Wf] at p;split at p<;>cases p
 ·rw[m];exact B.leave T q k
end
open PySem L2 PyProof.Rows
def oS{P:Program}{w:World}{K:vE}{mg:Str->Option Value}{base:Heap}{Γ:Nat->∅}{X:Cx}{c:TC}{k:Nat}{g x y:Str}{i j:Nat}{sp:Sp}{p e f h:Pos}(d:XE X c Γ)(l:Room k X.A)(m:CO c g=true)(G:GSp X.prog X.w X.K X.mg X.base k g sp)
 (n:slot c x=some i)(o:slot c y=some j):PE X (.Call (.Name g p) [.Name x e,.Name y f] [] h) (dQ sp [] E0 (cy (Dh i) (cy (Dh j) D1))):=by
 obtain⟨a,M,ps,q,r,s,t⟩:=G
 obtain⟨u,v⟩:=cK d m
 obtain⟨z,B,C,F⟩:=bH d n
 obtain⟨H,I,J,L⟩:=bH d o
 exact kk (E:=E0) q l u r s t .nil iw (cc (bA z (DL.Loc.vis B) C F) (cc (bA H (DL.Loc.vis I) J L) cJ)) v
structure Lps(Γ:Nat->∅)(Θ:List (Addr×List D)->Int->List (Addr×List D)->Prop)(d0 d1:D)(n:Nat)(ke:E)(oss:Nat->List (Addr×List D))(ks:Nat->Int)(t:Nat):Prop where
 ke:∀j,j<=t->∀x3,ev Γ ke (CL (rF d0 d1 x3 n) 2 (oss j))=some (.val (.int (ks j)))
 th:∀j,j<t->Θ (oss j) (ks j) (oss (j+1))
 sb:∀j,j<t->∀a∈(oss (j+1)).map (·.1),a∈(oss j).map (·.1)
section
variable{P:Program}{w:World}{K:vE}{mg:Str->Option Value}{base:Heap}{Γ:Nat->∅}
end
open PySem L2 PyProof.Rows
section
variable{P:Program}{w:World}{K:vE}{mg:Str->Option Value}{base:Heap}{Γ:Nat->∅}
def jq(Γ:Nat->∅)(p:D->D->List (List D)->Prop)(q:List (Addr×List D)->Int->List (Addr×List D)->Prop)(n:Nat)(l r ee:E)(s:Ss)(g d1:D)(m:W):Prop:=
 ∃i o,p g d1 i/\(∀f:List (Addr×List D),f.map (·.2)=i->(f.map (·.1)).Nodup->ev Γ l (CL (rF g d1 none n) 2 f)=some (.val (.int o))) /\
 ∀f:List (Addr×List D),f.map (·.2)=i->(f.map (·.1)).Nodup->∃e h t fin,e 0=f/\h 0=o/\Lps Γ q g d1 n l e h t /\
  (∀j,j<=t->((ev Γ r (CL (rF g d1 (some (.int (h j))) n) 2 (e j))).map W.d).bind bp=some (decide (j<t) || fin)) /\
  (∀j,j<=t->(j<t\/fin=true)->((ev Γ ee (CL (rF g d1 (some (.int (h j))) n) 2 (e j))).map W.d).bind bp=some (!decide (j<t))) /\
  (if fin=true then m=.new [] else exs Γ s (IU g d1 (.lst (Dg (e t))) (.int (h t)) n)=some (.rt m))
def vT{x G:Str}{h:Stmt}{f:Addr}{fd:FuncData}{k m n:Nat}{d e:List (Str×Nat×Nat)}{N:List Str}{v o I J:Expr}{ke te ee:E}{ss:List Stmt}{bs:Ss}{a1 a2 a3 a4 a5 a6 b1 b2 c1 c2 c3 c4 c5 g1 g2 g3 i1 i2 i3:Pos}{Θ:List (Addr×List D)->Int->List (Addr×List D)->Prop}{Ξ:D->D->List (List D)->Prop}{φ:∅}
 (Fn:Fun K x G h f fd)(S:FnScope N ["one","other"] (Ba h))(a0:N.length=n+4)
 (hb:Bc h = .Assign [.Name "bounds" a1] (.Call (.Name "bounds_of" a2) [.Name "one" a3,.Name "other" a4] [] a5) a6 :: .Assign [.Name "k" b1] v b2 ::
   .While I [.If J [.Return (some (.List [] i1)) i2] [] i3,.Expr (.Call (.Name "drop" c1) [.Name "bounds" c2,.Name "k" c3] [] c4) c5,.Assign [.Name "k" g1] o g2] [] g3::ss)
 (a7:slot ⟨N,Ba h,d,e,true⟩ "one" = some 0)(a8:slot ⟨N,Ba h,d,e,true⟩ "other" = some 1)(M:slot ⟨N,Ba h,d,e,true⟩ "bounds" = some 2)(O:slot ⟨N,Ba h,d,e,true⟩ "k" = some 3)
 (a9:trE m ⟨N,Ba h,d,e,true⟩ v=some ke)(R:trE m ⟨N,Ba h,d,e,true⟩ o=some ke)(aa:Dn m ⟨N,Ba h,d,e,true⟩ I=some te)(ab:Dn m ⟨N,Ba h,d,e,true⟩ J=some ee)(ae:trSs m ⟨N,Ba h,d,e,true⟩ ss=some bs)
 (T:∀env,swapsWith v (some (.Name "k" b1)) b2.line env=pure false)(U:∀env,swapsWith o (some (.Name "k" g1)) g2.line env=pure false)
 (af:CO ⟨N,Ba h,d,e,true⟩ "bounds_of" = true)(ag:CO ⟨N,Ba h,d,e,true⟩ "drop" = true)
 (G1:GSp P w K mg base k "bounds_of" (D2 K Ξ))(G2:GSp P w K mg base k "drop" (fu K Θ))(hd:Deps P w K mg base k Γ d e true)
 (ah:∀q d1 wv,φ [q,d1]=some wv->jq Γ Ξ Θ n ke te ee bs q d1 wv):FnOk P w K mg base C3 (k+1) f fd ["one","other"] (Et K 2 φ):=by
 refine Fn.ok S (λvs H Q E ⟨Fz,ds,w,h1,h2,h3,h4,h5⟩=>by rw[h2.length];exact h3) (λao A outer s H vs Q E hr ⟨F,ds,wv,h1,h2,h3,h4,h5⟩=>?_);have r:=gk (CX:=C3) (E:=E) (outer:=outer) (H:=H) S hd hr;obtain⟨q,d1,rfl⟩:∃q d1,ds=[q,d1]:=by
  match ds,h3 with
  |[q,d1],_=>exact⟨q,d1,rfl⟩
 obtain⟨ls,k0,r1,r2,r3⟩:=ah q d1 wv h4
 obtain⟨v0,ap,rfl,q0,t2⟩:=h2.inv_cons
 obtain⟨v1,aq,rfl,q1,t3⟩:=t2.inv_cons
 have:=t3.inv_nil
 subst this;have ai:L2.start N [v0,v1]=some v0::some v1::none::none::List.replicate n none:=by
  unfold L2.start;rw[a0];show some v0::some v1::List.replicate (n+2) none=_;rw[V6,V6]
 obtain⟨aj,ak,ar,as⟩:=bH r.toXE M
 obtain⟨V,X,au,av⟩:=bH r.toXE O
 rw[hb];have nd:=S.nd;refine⟨_,Bz (eP (i:=2) nd aj ak (oS (P:=P) (w:=w) (K:=K) (mg:=mg) (base:=base) r.toXE hr af G1 a7 a8) rfl (.inl rfl)) (Bz (eP (i:=3) nd V X (lA r.toXE a9) (T _) (.inl rfl))
  (Bz (mN r.po (E6 r.toXE aa) (Bz (j8 (E6 r.toXE ab) (dr (ig (kj cJ))) mK) (Bz (fP (oS (P:=P) (w:=w) (K:=K) (mg:=mg) (base:=base) r.toXE hr ag G2 M O) rfl) (dr (eP (i:=3) nd V X (lA r.toXE R) (U _) (.inl rfl)))))) (vS r ae))),?_⟩
 rw[ai];refine FB.start (n:=n) h1 h2 r1 r2 rfl λaw H2 F2 L os eo B=>?_;obtain⟨Y,ks,t,am,o1,o2,lp,an,Z,tl⟩:=r3 os eo B.bs.ob.nd
 subst o1 o2;refine⟨λmm l C=>∃F' j,mm=t-j/\j<=t/\FB K H F F' C l (rF q d1 (some (.int (ks j))) n) L (Y j),⟨t,F2,0,rfl,Y8 _,B⟩,?_⟩
 rintro mm ax H3 ⟨F3,j,rfl,hj,B3⟩
 refine B3.exT (an j hj) λH4 F4 B4=>?_;by_cases g:j<t
 ·rw[decide_eq_true g,Bool.true_or];refine Dm ⟨λl C=>∃F',FB K H F F' C l (rF q d1 (some (.int (ks (j+1)))) n) L (Y (j+1)),λl C ⟨F',B'⟩=>⟨t-(j+1),by omega,F',j+1,rfl,g,B'⟩,?_⟩;refine B4.exT (Z j hj (.inl g)) λH5 F5 u=>?_;rw[decide_eq_true g];refine Ds ?_;exact u.drop (E:=E0) rfl (lp.th j g) (lp.sb j g) (lp.ke (j+1) g _) rfl λay H6 F6 B6=>⟨F6,B6⟩
 ·have ej:j=t:=by omega
  subst ej;rw[decide_eq_false g,Bool.false_or];cases am with
  |true=>
   refine Dm ⟨λl C=>False,λl C z=>z.elim,?_⟩;refine B4.exT (Z j hj (.inr rfl)) λH5 F5 u=>?_;rw[decide_eq_false g];refine Dm ?_;rw[if_pos rfl] at tl;subst tl;refine⟨Y8 _,λp hp=>?_⟩
   have fp:F5 p=none:=u.bs.ss.sub.free hp;exact h5 _ _ F5 (u.kn.hs.trans (bU hp)) u.kn.fs (u.bs.ss.sub.trans (bU hp)) u.kn.new ⟨p,[],rfl,fp,u.kn.hs.free hp,Bh,DenL.nil⟩
  |false=>
   rw[if_neg vA] at tl;exact Ds (B4.tail tl rfl h5)
end
open PySem L2 PyProof.Rows
section
variable{P:Program}{w:World}{K:vE}{mg:Str->Option Value}{base:Heap}{Γ:Nat->∅}
def jr{h:Heap}{x:Str}{d:Stmt}{e:List Str}{k:Nat}{sp:Sp}(A:At K x d)(X:K.In h)(G:h.Ns mainGlobals mg)(B:CK x d e)(F:∀f g,Fun K x x d f g->FnOk P w K mg base C3 k f g e sp):GSp P w K mg base k x sp:=by
 obtain⟨f,p,q,kV,m,r,s,n,t,o,a,l,c,i⟩:=A
 have j:=iy (st:=d) l c i;exact⟨f,_,e,F _ _ j,Jy X G a,i,j.binds B⟩
def vU{h:Heap}{x:Str}{d:Stmt}{e:List Str}{k n:Nat}{g:∅}(A:At K x d)(X:K.In h)(G:h.Ns mainGlobals mg)(B:CK x d e)(F:∀f i,Fun K x x d f i->FnOk P w K mg base C3 k f i e (Et K n g)):GFn P w K mg base k x n g:=jr A X G B F
def Ft(f:Stmt)(c:TC)(m:Nat)(g:Ss)(h:E)(i:Nat):Prop:=∃e mid d j l n,Bc f=e++[.Assign [.Attribute (.Name mid j) "closing" l] d n]/\trSs m c e=some g/\trE m c d=some h/\slot c mid=some i/\cW d=false
def vV{h:Heap}{x p:Str}{g:Stmt}{N:List Str}{k m o:Nat}{i j:List (Str×Nat×Nat)}{q:Ss}{r:E}{s:D->Addr->D->Prop}(A:At K x g)(X:K.In h)(G:h.Ns mainGlobals mg)(S:FnScope N [p] (Ba g))(B:CK x g [p])
 (t:Ft g ⟨N,Ba g,i,j,true⟩ m q r o)(u:Deps P w K mg base k Γ i j true)
 (n:∀T a d,s T a d->∃e l,exs Γ q ([~~~T]++List.replicate (N.length-1) none)=some (.nx e)/\(view e)[o]? = some (some (.obj a l))/\ev Γ r (view e)=some (.val d)):GSp P w K mg base (k+1) x (cn K s):=by
 obtain⟨L,mid,value,M,O,Q,v,z,C,F,H⟩:=t
 exact jr A X G B λf R I=>FP I S v z C F (λJ=>dW H) u n
def oU(d:Stmt):Prop:=∃e f g h i j l m n o p q r s t u v,Bc d=[.Assign [.Attribute (.Name "self" e) "place" f] (.Name "place" g) h,.Assign [.Attribute (.Name "self" i) "side" j] (.Name "side" l) m,.Assign [.Attribute (.Name "self" n) "least" o] (.Name "least" p) q,.Assign [.Attribute (.Name "self" r) "closing" s] (.Constant .none v t) u]
def AtC(K:vE)(e:Stmt):Prop:=∃(C f:Addr) (i:Value) (j:Option Addr) (kV g l:Value) (m:Option Addr) (d n:Value) (h:Array (Option Value)),PySem.W.nsIn K mainGlobals "Bound" = some (some (.ref C))/\Cls K C/\(NoAttr K C "place" /\ NoAttr K C "side" /\ NoAttr K C "least" /\ NoAttr K C "closing")/\Mk K C f /\
 K.lookup f=some ⟨i,j,.func (PySem.W.fnOf "__init__" "Bound.__init__" (bT e) (Bc e) (Ba e) .none kV g l m d n),h⟩/\PySem.W.codeIn K d "Bound.__init__" = true/\PySem.W.keepIn K (.ref f)=true
def AtC.bf{e:Stmt}(A:AtC K e):BFacts K:=by
 obtain⟨C,f,n,o,kV,h,p,q,i,r,j,l,m,⟨s,t,u,v⟩,_⟩:=A
 refine⟨C,l,m,λg d=>?_⟩
 simp only[flds,Zf,Zk,or_false] at d;rcases d with rfl|rfl|rfl|rfl<;>assumption
def GQ{h:Heap}{d:Stmt}{k:Nat}(A:AtC K d)(X:K.In h)(G:h.Ns mainGlobals mg)(S:FnScope ["self","place","side","least"] ["self","place","side","least"] (Ba d))
 (B:∀(kV g j:Value) (l:Option Addr) (i ct:Value) (us:List Value),us.length=4->bindArgs (PySem.W.fnOf "__init__" "Bound.__init__" (bT d) (Bc d) (Ba d) .none kV g j l i ct) ⟨us,[]⟩=pure ((["self","place","side","least"]:List Str).zip us))
 (o:oU d)(p:∀y∈(["self","place","side","least"]:List Str),(Ba d).names.lookup y=some .local):MkB P w K mg base (k+1):=by
 have bf:=A.bf;obtain⟨C,f,v,z,kV,g,j,l,i,ct,q,m,D,E,r,s,t,u⟩:=A
 obtain⟨F,H,I,J,L,M,N,O,Q,R,T,U,V,Y,Z,d4,kn,e⟩:=o
 have n:=iy (st:=d) s t u;exact⟨C,f,_,_,m,Jy X G m,r,vL (k:=k) n S e p bf,n.binds B⟩
def oV(h:Stmt)(c:TC)(m:Nat)(i j:Es):Prop:=∃d e p l n o f g q r s t u,Bc h=[.Expr (.Call (.Attribute (.Name "bounds" p) "pop" f) [.Name "k" l] [] g) q,.Expr (.Call (.Name "set_closing" n) [d] [] r) t,.Expr (.Call (.Name "set_closing" o) [e] [] s) u] /\
 (f.endLine == g.line)=true/\trEs m c [d]=some i/\trEs m c [e]=some j/\Bd d=true/\Bd e=true/\CO c "set_closing" = true
def Lj(p:Stmt)(c:TC)(m:Nat)(q:It')(r:E)(s t:Es):Prop:=∃e d f g u v w h i j z A B l n C D F G H I J K L M N O g3 P Q R o,Bc p=[.Assign [.Name "bounds" u] (.List [] v) w,
   .For (.Tuple [.Name "place" h,.Name "side" i] o j) e [.Assign [.Name "least" z] d A,.Expr (.Call (.Attribute (.Name "bounds" B) "append" l) [.Call (.Name "Bound" D) [.Name "place" F,.Name "side" G,.Name "least" H] [] I] [] n) C] [] J,
   .For (.Name "k" N) (.Call (.Name "range" O) [g] [] g3) [.Expr (.Call (.Name "set_closing" K) [f] [] L) M] [] P,
   .Return (some (.Name "bounds" Q)) R]/\(l.endLine == n.line)=true/\trI1 (trE m c) c (.Tuple [.Name "place" h,.Name "side" i] o j) e=some q/\trE m c d=some r/\cW d=false/\fe e=false/\trEs m c [f]=some s/\Bd f=true/\trEs m c [g]=some t/\Bd g=true /\
   CO c "set_closing" = true/\CO c "range" = true/\CO c "Bound" = true
def vW{h:Heap}{x:Str}{e:Stmt}{k m:Nat}{i j:List (Str×Nat×Nat)}{t u:Es}{q:D->Addr->D->Prop}{v:List (Addr×List D)->Int->List (Addr×List D)->Prop}(A:At K x e)(X:K.In h)(G:h.Ns mainGlobals mg)(S:FnScope ["bounds","k"] ["bounds","k"] (Ba e))(B:CK x e ["bounds","k"])
 (E:∀y∈(["bounds","k"]:List Str),(Ba e).names.lookup y=some .local)(F:oV e ⟨["bounds","k"],Ba e,i,j,true⟩ m t u)(H:GSp P w K mg base k "set_closing" (cn K q))(I:Deps P w K mg base k Γ i j true)
 (r:∀d g l,v d g l -> -(2^63)<=g/\g<2^63/\∃n z o d1 C s d2,seqIndex? g d.length=some n/\n<d.length /\
   evs Γ t [some (.lst (Dg (d.eraseIdx n))),some (.int g)]=some [z]/\q z o d1/\lf d1=true/\o∈(d.eraseIdx n).map (·.1) /\
   evs Γ u [some (.lst (Dg (setC (d.eraseIdx n) o d1))),some (.int g)]=some [C]/\q C s d2/\lf d2=true/\s∈(d.eraseIdx n).map (·.1)/\l=setC (setC (d.eraseIdx n) o d1) s d2):GSp P w K mg base (k+1) x (fu K v):=by
 obtain⟨U,V,p,W,Y,Z,ap,cp,ep,c1,c2,q1,q2,J,L,M,N,O,Q,R⟩:=F
 exact jr A X G B λf fd T=>vQ T S J L E M N O Q R H I r
def Ho{h:Heap}{x:Str}{j:Stmt}{k m:Nat}{o q:List (Str×Nat×Nat)}{N:It'}{O:E}{Q R:Es}{T:D->Addr->D->Prop}{U:D->D->List (List D)->Prop}(A:At K x j)(X:K.In h)(G:h.Ns mainGlobals mg)(S:FnScope NB ["one","other"] (Ba j))(B:CK x j ["one","other"])
 (W:∀y∈NB,(Ba j).names.lookup y=some .local)(Y:Lj j ⟨NB,Ba j,o,q,true⟩ m N O Q R)(t:mg "range" = none)(Z:GSp P w K mg base k "set_closing" (cn K T))(M:MkB P w K mg base k)(hd:Deps P w K mg base (k+1) Γ o q true)
 (u:∀n d1 V,U n d1 V->∃e g,e.length<1000/\evI Γ N [~~~n,~~~d1,none,none,none,none,none]=some (e,[~~~n,~~~d1,none,none,none,none,none])/\g.length=e.length /\
   (∀(i:Nat) (d:D),e[i]? = some d->∃p s l,d=D.tup [p,s]/\g[i]? = some [p,s,l,.non]/\∀v,ev Γ O (rB n d1 (some p) (some s) v none)=some (.val l)) /\
   (∀x3 x4 v z,z.length=e.length->evs Γ R (CL (rB n d1 x3 x4 v none) 2 z)=some [.int (z.length:Int)]) /\
   ∀C,C.Nodup->C.length=e.length->lF Γ T n d1 Q e.length C g V):GSp P w K mg base (k+1+1) x (D2 K U):=by
 obtain⟨iter,r,e3,ln,a1,a2,a3,b1,b2,b3,b4,b5,b6,b7,b8,b9,c1,c2,c3,c4,c5,c6,c7,c8,c9,g1,g2,g3,g4,h1,h2,bk,q1,q2,q3,q4,q5,q6,q7,q8,q9,F,H,I,J⟩:=Y
 exact jr A X G B λf fd Fn=>vR Fn S q1 q2 W q3 q4 (λL=>dW q5) (λL x=>kJ q6 x) q7 q8 q9 F H I J t Z M hd u
end
open PySem L2 PyProof.Rows
section
variable{P:Program}{w:World}{K:vE}{mg:Str->Option Value}{base:Heap}{Γ:Nat->∅}
def oW(j:Stmt)(c:TC)(m:Nat)(h l ee:E)(n:Ss):Prop:=∃e d f g i o p q r s t u v w z A B C D F g3 G H I,Bc j = .Assign [.Name "bounds" o] (.Call (.Name "bounds_of" p) [.Name "one" q,.Name "other" r] [] s) t :: .Assign [.Name "k" u] e v ::
   .While f [.If g [.Return (some (.List [] G)) H] [] I,.Expr (.Call (.Name "drop" w) [.Name "bounds" z,.Name "k" A] [] B) C,.Assign [.Name "k" D] d F] [] g3::i/\slot c "one" = some 0/\slot c "other" = some 1/\slot c "bounds" = some 2/\slot c "k" = some 3/\trE m c e=some h/\trE m c d=some h/\Dn m c f=some l/\Dn m c g=some ee/\trSs m c i=some n/\cW e=false/\cW d=false/\CO c "bounds_of" = true/\CO c "drop" = true
def vY{h:Heap}{x:Str}{d:Stmt}{N:List Str}{k m n:Nat}{e g:List (Str×Nat×Nat)}{t u ee:E}{v:Ss}{z:List (Addr×List D)->Int->List (Addr×List D)->Prop}{C:D->D->List (List D)->Prop}{F:∅}(A:At K x d)(X:K.In h)(G:h.Ns mainGlobals mg)(S:FnScope N ["one","other"] (Ba d))(i:N.length=n+4)(B:CK x d ["one","other"])
 (L:oW d ⟨N,Ba d,e,g,true⟩ m t u ee v)(M:GSp P w K mg base k "bounds_of" (D2 K C))(O:GSp P w K mg base k "drop" (fu K z))(Q:Deps P w K mg base k Γ e g true)
 (j:∀H d1 I,F [H,d1]=some I->jq Γ C z n t u ee v H d1 I):GFn P w K mg base (k+1) x 2 F:=by
 obtain⟨R,J,T,U,ss,a1,a2,a3,a4,a5,a6,b1,b2,c1,c2,c3,c4,c5,g1,g2,g3,i1,i2,i3,V,Y,Z,q4,q5,q6,q7,q8,q9,l,o,p,q,r⟩:=L
 exact vU A X G B λf fd Fn=>vT Fn S i V Y Z q4 q5 q6 q7 q8 q9 l (λs=>dW o) (λs=>dW p) q r M O Q j
end
end DL
namespace DL
open Sf
def fr(x:Rat):D:=.tup [.int x.num,.int (x.den:Int)]
def ixf0{z:Rat}:ixD (fr z) (.int 0)=some (.int z.num):=rfl
def ixf1{z:Rat}:ixD (fr z) (.int 1)=some (.int (z.den:Int)):=rfl
def lff{z:Rat}:lf (fr z)=true:=rfl
local macro_rules | `(tactic| walk_at "evh")=>do
 let l ← ("run_eq uK uL uU uV ex_asg asgO_s ex_unp unpO_s ex_par parO_s ex_ret retO_s uM uW uX ex_iff iffO_t iffO_f ex_whl ex_frr forO_s uO u3 u4 u5 uQ u7 uS u6 uY uZ evB_eq ev_var ev_int ev_bl ev_non ev_bin ev_neg ev_cmp ev_and ev_or ev_not ev_tup ev_lst ev_ix ev_sl uH ev_bi ev_isi isiW_i isiW_b isiW_t isiW_l isiW_n ev_isx isxW_n uN ex_app appO_s vi vk ev_fm ev_lcp lcpW d3 blkR id_eq vr vt dv setE_0 setE_s vp vq vl vm uP seqB_l seqB_t seqB_o seqD ox oy uI uJ evd evb bin2_s un1_s andO_t andO_f orO_t orO_f appL_s uT slO_s cmpW ixW negW notW_s tupW lstW varD_0 varD_s u9 va setR_0 setR_s vg vh eZ vb vc vd after lfW lf lfL Wd_v Wd_n Wb_v Wb_n Bd_s Bd_o DL.op_add DL.op_sub DL.op_mul DL.op_fdiv DL.op_mod bP dY dZ Bt op_p4 op_p5 op_p6 op_p9 op_p10 op_p18 eqL eqD dOkL dOk beq_self_eq_true Bool.and_self op_p30 op_p60 op_p64 Int.reduceEq Int.reduceLT Int.reduceLE Int.reduceNeg Int.reduceAdd Int.reduceSub Int.reduceMul Int.reduceToNat Int.reducePow Int.reduceMod Int.reduceDiv cs0 cs1 cs2 cs3 cs4 cs5 cs6 cs7 cs8 cs9 cs10 cs11 cs12 Nat.reduceSub cm_lt cm_le cm_gt cm_ge cm_eq cm_ne cm_eqB cm_neB oD oE cm_eqL oF cm_in kW cm_isN vu biW lenW absW minW maxW ixD_t ixD_l ixf0 ixf1 lff slD_l vf iX isTy du Zy Wp List.cons_append List.nil_append Kc Zw Kv Qg Y7 List.set_cons_zero List.set_cons_succ Wy Option.map_none Zv Ur List.replicate if_true if_false Nat.reduceAdd Nat.reduceLT Nat.reduceLeDiff Wv reduceCtorEq decide_true decide_false Bool.not_true Bool.not_false Bool.and_true Bool.true_and Bool.and_false Bool.false_and ne_eq not_false_eq_true and_self and_true true_and Nat.reduceEqDiff Nat.zero_ne_one Nat.one_ne_zero sl0 sl1 sl2 sl3 sl4 sl5 sl6 sl7 sl8 sl9 at1_0 at2_0 at2_1 at3_0 at3_1 at3_2 at4_0 at4_1 at4_2 at4_3 at5_0 at5_1 at5_2 at5_3 at5_4 at6_0 at6_1 at6_2 at6_3 at6_4 at6_5 ev_fld fldO_s ev_ife uR oz vo zipO sqD ev_idx vn iZ sumW".splitOn " ").toArray.mapM λs=>`(Lean.Parser.Tactic.simpLemma| $(Lean.mkIdent s.toName):term)
 `(tactic| simp only[$l,*, *])
open Sf
def KO:D->Option (List D)
 |.tup l=>some l
 |_=>none
def KN:List D->Option (D×D)
 |[a,b]=>some (a,b)
 |_=>none
def HH{d:D}{l:List D}(h:KO d=some l):d=.tup l:=by cases d<;>first|(cases h;rfl)|(cases h;done)
def HG{l:List D}{p:D×D}(h:KN l=some p):l=[p.1,p.2]:=by
 cases l with
 |nil=>cases h
 |cons a l=>
  cases l with
  |nil=>cases h
  |cons b l=>
   cases l with
   |nil=>cases h;rfl
   |cons _ _=>cases h
def En(d:D):Option Rat:=(KO d).bind λl=>(KN l).bind λz=>(CS z.1).bind λp=>(CS z.2).bind λq=>if 0<q/\Int.gcd p q=1 then some (Rat.divInt p q) else none
def oX(x:Rat):En (fr x)=some x:=by
 have f:=cM x;show(if 0<(x.den:Int)/\Int.gcd x.num (x.den:Int)=1 then some (Rat.divInt x.num (x.den:Int)) else none)=some x;rw[if_pos ⟨f.pos,f.co⟩,Yp]
def lG{d:D}{x:Rat}(h:En d=some x):d=fr x:=by
 obtain⟨l,e,h⟩:=Za.mp h
 obtain⟨z,f,h⟩:=Za.mp h
 obtain⟨p,g,h⟩:=Za.mp h
 obtain⟨q,i,h⟩:=Za.mp h
 split at h
 ·rename_i y;cases h;obtain⟨a,b⟩:=rat_of ⟨y.1,y.2⟩
  rw[HH e,HG f,gf g,gf i];unfold fr;rw[a,b]
 ·cases h
def Ib(x:Rat):Bool:=decide (x.num.natAbs<2^4400) && decide (x.den<2^4400)
def oY{n:Nat}{x:Rat}(h:Sz n x)(k:n<=4400):Ib x=true:=by
 have:=h.mono k
 unfold Ib;rw[Zl];exact⟨decide_eq_true this.t,decide_eq_true this.b⟩
def oZ{x:Rat}(h:Ib x=true):Sz 4400 x:=by
 unfold Ib at h;rw[Zl] at h;exact⟨of_decide_eq_true h.1,of_decide_eq_true h.2⟩
def Bf{a b:Int}{m n:Nat}(d:a.natAbs<2^m)(e:b.natAbs<2^n)(f:m<=16000)(g:n<=16000):Bk a b=true:=by
 unfold Bk;rw[Zl];exact⟨decide_eq_true (Zg d (Bm f)),decide_eq_true (Zg e (Bm g))⟩
def cX{b:Int}{n:Nat}(d:b≠0)(e:b.natAbs<2^n)(f:n<=9000):br b=true:=by
 unfold br;rw[Zl];exact⟨decide_eq_true d,decide_eq_true (Zg e (Bm f))⟩
section
variable{Γ:Nat->∅}
def B9:∅
 |[.int a,.int b]=>some (.val (.int (gc a b)))
 |_=>none
def vZ(a b:Option B):∀(m:Nat) (n:Nat),n<=m->∀(g:Int) (r:Option B),0<=g->∃f,bE (EI Γ (.cmp .ne (.var 3) (.int 0))) (exs Γ #v[.asg 4 (.bin .mod (.var 2) (.var 3)),.asg 2 (.var 3),.asg 3 (.var 4)]) (m+1)
  [a,b,~~~.int g,~~~.int (n:Int),r]=some (.nx [a,b,~~~.int (gc g n),~~~.int 0,f]):=by
 intro m;induction m with
 |zero=>
  intro n i g r h;obtain rfl:n=0:=by omega
  refine⟨r,?_⟩
  unfold bE;walk_at "evh"
  simp[i8 h]
 |succ m j=>
  intro n i g r h;unfold bE;walk_at "evh"
  by_cases o:n=0
  ·subst o;refine⟨r,?_⟩
   simp[i8 h]
  ·have d:¬((n:Int)=0):=by omega
   simp only[d,decide_false,Bool.not_false,if_false];walk_at "evh"
   have e:g.fmod (n:Int)=((g%(n:Int)).toNat:Int):=by
    rw[Qy _ vB];have:=Wt g d
    omega
   have l:(g%(n:Int)).toNat<=m:=by
    have:=Qq g (show(0:Int)<n by omega)
    have:=Wt g d
    omega
   obtain⟨f,q⟩:=j _ l (n:Int) (~~~.int ((g%(n:Int)).toNat:Int)) vB
   refine⟨f,?_⟩
   rw[e,q];have p:(((g%(n:Int)).toNat:Nat):Int)=g%n:=by have:=Wt g d;omega
   rw[p,kX]
def js(b:Int):(if b<0 then -b else b)=((b.natAbs:Nat):Int):=by split<;>omega
def ok_divisor:∀d w,d.length=2->B9 d=some w->run Γ k6 5 d=some w:=by
 intro d w _ h;unfold B9 at h;split at h
 ·rename_i a b _;cases h;unfold k6;walk_at "evh"
  obtain⟨e,q⟩:=vZ (Γ:=Γ) (~~~.int a) (~~~.int b) b.natAbs b.natAbs (Zn _) (if a<0 then -a else a) none (by split<;>omega)
  rw[js b,kH q];walk_at "evh"
  rw[<-js b,oG]
 ·cases h
def v3:∀(m:Nat) (n:Nat),n<=m->∀(g:Int),0<=g->bE (EI Γ (.cmp .gt (.var 1) (.int 0))) (exs Γ #v[.par 0 1 (.var 1) (.bin .mod (.var 0) (.var 1))]) (m+1)
  [~~~.int g,~~~.int (n:Int)]=some (.nx [~~~.int (gc g n),~~~.int 0]):=by
 intro m;induction m with
 |zero=>
  intro n i g f;obtain rfl:n=0:=by omega
  unfold bE;walk_at "evh"
  simp[i8 f]
 |succ m j=>
  intro n i g f;unfold bE;walk_at "evh"
  by_cases o:n=0
  ·subst o;simp[i8 f]
  ·have d:¬((n:Int)=0):=by omega
   have p:(0:Int)<n:=by omega
   simp only[d,p,decide_true,if_false];walk_at "evh"
   have e:g.fmod (n:Int)=((g%(n:Int)).toNat:Int):=by
    rw[Qy _ vB];have:=Wt g d
    omega
   have l:(g%(n:Int)).toNat<=m:=by
    have:=Qq g (show(0:Int)<n by omega)
    have:=Wt g d
    omega
   have q:=j _ l (n:Int) vB;have h:(((g%(n:Int)).toNat:Nat):Int)=g%n:=by have:=Wt g d;omega
   rw[h] at q;first
    |(rw[e,h,q,kX])
    |(rw[q,kX])
def ok_law_divisor:∀d w,d.length=2->B9 d=some w->run Γ lg 2 d=some w:=by
 intro d w _ h;unfold B9 at h;split at h
 ·rename_i a b _;cases h;unfold lg;walk_at "evh"
  have q:=v3 (Γ:=Γ) b.natAbs b.natAbs (Zn _) (if a<0 then -a else a) (by split<;>omega);rw[js b,kH q];walk_at "evh"
  rw[<-js b,oG]
 ·cases h
end
set_option exponentiation.threshold 20000
open Sf
def gI{a b:Int}:B9 [.int a,.int b]=some (.val (.int (gc a b))):=rfl
section
variable{Γ:Nat->∅}
def dB:∅
 |[.int t,.int b]=>if b≠0/\b.natAbs<2^9000 then some (.val (fr (Rat.divInt t b))) else none
 |_=>none
def lI{t b:Int}(h:b≠0):(gc t b).natAbs<=b.natAbs:=by
 have:=Wd t b
 exact d8 this h
def o5{t b:Int}(h:b≠0)(d:b.natAbs<2^9000):br (gc t b)=true/\br (-(gc t b))=true:=by
 have p:=dA (a:=t) h;have l:=lI (t:=t) h;exact⟨cX (n:=9000) vB vB (Zn _),cX (n:=9000) vB (by rw[Jg];omega) (Zn _)⟩
def o6{t b:Int}(h:b≠0):fr (Rat.divInt t b)=.tup [.int (Dj t b),.int (low2 t b)]:=by
 obtain⟨a,c⟩:=vz (t:=t) h
 unfold fr;rw[a,c]
def ok_ratio(f:Γ 0=B9):∀d w,d.length=2->dB d=some w->run Γ k7 3 d=some w:=by
 intro d w _ h;unfold dB at h;split at h
 ·rename_i t b _;split at h
  ·rename_i z;cases h;unfold k7;walk_at "evh"
   try simp only[z.1,decide_false]
   try walk_at "evh"
   simp only[f,gI];walk_at "evh"
   obtain⟨g,i⟩:=o5 (t:=t) z.1 z.2
   rw[o6 z.1];unfold Dj low2 by_;by_cases e:b<0
   ·simp only[e,decide_true];walk_at "evh"
    try simp only[i]
    try walk_at "evh"
   ·simp only[e,decide_false];walk_at "evh"
    try simp only[g]
    try walk_at "evh"
  ·cases h
 ·cases h
def fr2(C:Rat->Rat->Bool)(g:Rat->Rat->D):∅
 |[a,b]=>match En a,En b with
  |some x,some y=>if C x y=true then some (.val (g x y)) else none
  |_,_=>none
 |_=>none
def dC{C:Rat->Rat->Bool}{g:Rat->Rat->D}{d:List D}{w:W}(h:fr2 C g d=some w):∃x y,d=[fr x,fr y]/\C x y=true/\w=.val (g x y):=by
 unfold fr2 at h;split at h
 ·split at h
  ·rename_i x y e f;split at h
   ·rename_i z;cases h;exact⟨x,y,by rw[lG e,lG f],z,rfl⟩
   ·cases h
  ·cases h
 ·cases h
def bz{C:Rat->Rat->Bool}{g:Rat->Rat->D}{x y:Rat}(h:C x y=true):fr2 C g [fr x,fr y]=some (.val (g x y)):=by
 unfold fr2;simp only[oX,h,if_true]
def C9(x y:Rat):Bool:=Ib x && Ib y
def Br{m n:Nat}{x y:Rat}(d:Sz m x)(e:Sz n y)(f:m<=4400)(g:n<=4400):C9 x y=true:=by
 unfold C9;rw[oY d f,oY e g];rfl
def dD{x y:Rat}(h:C9 x y=true):Sz 4400 x/\Sz 4400 y:=by
 unfold C9 at h;rw[Zl] at h;exact⟨oZ h.1,oZ h.2⟩
def cq:∅:=fr2 C9 λx y=>fr (x+y)
def bB:∅:=fr2 C9 λx y=>fr (x-y)
def bw:∅:=fr2 C9 λx y=>fr (x*y)
def cY:∅:=fr2 (λx y=>C9 x y && decide (y≠0)) λx y=>fr (x/y)
def dE:∅:=fr2 C9 λx y=>.bl (decide (x<y))
def den_pos(x:Rat):(0:Int)<x.den:=(cM x).pos
def ok_plus(A:Γ 0=B9):∀g w,g.length=2->cq g=some w->run Γ k9 5 g=some w:=by
 intro g w _ h;obtain⟨x,y,rfl,j,rfl⟩:=dC h
 obtain⟨sx,sy⟩:=dD j
 have o:=den_pos x;have q:=den_pos y;have f:(y.den:Int)≠0:=by omega
 have i:=dA (a:=(x.den:Int)) f;have r:=lI (t:=(x.den:Int)) f;have B:((y.den:Int)).natAbs=y.den:=Yq _;have C:br (gc x.den y.den)=true:=cX (n:=4400) vB (by have:=sy.b;omega) vA;have e:∀{p s:Int},0<s->(p.fdiv s).natAbs<=p.natAbs:=λ{p s} u=>by
  rw[Vk _ (W9 u)];have:=Int.natAbs_ediv_le_natAbs p s
  exact this
 have l1:=e (p:=(y.den:Int)) i;have l2:=e (p:=(x.den:Int)) i;have D:((x.den:Int)).natAbs=x.den:=Yq _;have E:Bk x.num ((y.den:Int).fdiv (gc x.den y.den))=true:=Bf sx.t (n:=4400) (by have:=sy.b;omega) vA vA;have F:Bk y.num ((x.den:Int).fdiv (gc x.den y.den))=true:=Bf sy.t (n:=4400) (by have:=sx.b;omega) vA vA;have d:gc (x.den:Int) y.den≠0:=by omega
 have l:=dA (a:=CY x.num x.den y.num y.den) d;have v:=lI (t:=CY x.num x.den y.num y.den) d;have G:br (gc (CY x.num x.den y.num y.den) (gc x.den y.den))=true:=cX (n:=4400) vB (by have:=sy.b;omega) vA;have z:=e (p:=(y.den:Int)) l;have H:Bk ((x.den:Int).fdiv (gc x.den y.den)) ((y.den:Int).fdiv (gc (CY x.num x.den y.num y.den) (gc x.den y.den)))=true:=Bf (m:=4400) (n:=4400) (by have:=sx.b;omega) (by have:=sy.b;omega) vA vA;obtain⟨I,J⟩:=vF x y
 have K:x.num*(y.den:Int).fdiv (gc x.den y.den)+y.num*(x.den:Int).fdiv (gc x.den y.den)=CY x.num x.den y.num y.den:=rfl;have L:=@gI;clear j h o q sx sy f i r d l v l1 l2 z e;unfold k9;simp only[fr];walk_at "evh"
 rfl
def ok_minus(f:Γ 9=cq):∀d w,d.length=2->bB d=some w->run Γ la 2 d=some w:=by
 intro d w _ h;obtain⟨x,y,rfl,g,rfl⟩:=dC h
 obtain⟨sx,sy⟩:=dD g
 unfold la;simp only[fr];walk_at "evh"
 have e:(D.tup [.int (-y.num),.int (y.den:Int)])=fr (-y):=rfl;have i:(D.tup [.int x.num,.int (x.den:Int)])=fr x:=rfl;have q:cq [fr x,fr (-y)]=some (.val (fr (x + -y))):=bz (Br sx sy.neg (Zn _) (Zn _));simp only[f,e,i,q];walk_at "evh"
 rw[Kd];rfl
def ok_times(f:Γ 1=dB):∀d w,d.length=2->bw d=some w->run Γ lb 2 d=some w:=by
 intro d w _ h;obtain⟨x,y,rfl,g,rfl⟩:=dC h
 obtain⟨sx,sy⟩:=dD g
 have o:=den_pos x;have p:=den_pos y;have i:Bk x.num y.num=true:=Bf sx.t sy.t vA vA;have j:Bk (x.den:Int) y.den=true:=Bf (m:=4400) (n:=4400) (by rw[Yq];exact sx.b) (by rw[Yq];exact sy.b) vA vA;have l:((x.den:Int)*y.den).natAbs<2^9000:=by
  rw[Z9,Yq,Yq];exact Zg (bu sx.b sy.b) (Bm vA)
 have e:(x.den:Int)*y.den≠0:=Ys vB vB;unfold lb;simp only[fr];walk_at "evh"
 try simp only[i,j]
 try walk_at "evh"
 have q:dB [.int (x.num*y.num),.int ((x.den:Int)*y.den)]=some (.val (fr (x*y))):=by
  show(if _ then _ else _)=_;rw[if_pos ⟨e,l⟩,<-kZ]
 simp only[f,q];walk_at "evh"
 rfl
end
set_option exponentiation.threshold 20000
open Sf
section
variable{Γ:Nat->∅}
def isInt:D->Bool
 |.int _=>true
 |_=>false
def gJ:∅
 |[.exc _]=>none
 |[.obj _ _]=>none
 |[d]=>some (.val (.bl (isInt d)))
 |_=>none
def ok_law_whole:∀e w,e.length=1->gJ e=some w->run Γ k8 1 e=some w:=by
 intro e w _ h;unfold gJ at h;split at h
 ·cases h
 ·cases h
 ·rename_i d f g _;cases h;unfold k8;cases d with
  |exc x=>exact absurd rfl (f x)
  |obj a l=>exact absurd rfl (g a l)
  |_=>walk_at "evh"; rfl
 ·cases h
def v5{i:Int}:gJ [.int i]=some (.val (.bl true)):=rfl
def cA:∅
 |[d]=>match En d with
  |some x=>some (.val (.bl true))
  |none=>none
 |_=>none
def ok_law_is_fraction(g:Γ 3=gJ)(f:Γ 12=B9):∀d w,d.length=1->cA d=some w->run Γ lh 1 d=some w:=by
 intro d w _ h;unfold cA at h;split at h
 ·split at h
  ·rename_i x e;cases h;have i:=@gI;have j:=@v5;have l:=den_pos x;have m:gc x.num x.den=1:=by
    show((Int.gcd x.num x.den:Nat):Int)=1;rw[(cM x).co];rfl
   rw[lG e];clear e;unfold lh;simp only[fr];walk_at "evh"
  ·cases h
 ·cases h
end
set_option exponentiation.threshold 20000
open Sf
section
variable{Γ:Nat->∅}
def cN{a b:Int}{m n:Nat}(h:a.natAbs<2^m)(k:b.natAbs<2^n):(a*b).natAbs<2^(m+n):=by
 rw[Z9];exact bu h k
end
set_option exponentiation.threshold 20000
open Sf
section
variable{Γ:Nat->∅}
end
open Sf
section
variable{Γ:Nat->∅}
def per(c:Int):Int:=match (c%4).toNat with
 |0=>1
 |1=>3
 |2=>1000000000
 |_=>1000000000000000000
end
open Sf
section
variable{Γ:Nat->∅}
end
open Sf
section
variable{Γ:Nat->∅}
end
open Sf
section
variable{Γ:Nat->∅}
def Be{x:Rat}{n:Nat}(h:Sz n x):((x.den:Int)).natAbs<2^n:=by rw[Yq];exact h.b
def o7(x y:Rat):decide (x<y)=decide (x.num*(y.den:Int)<y.num*(x.den:Int)):=by
 rw[Ky];simp only[decide_eq_true_eq];exact Gy x y
def num_zero{y:Rat}:y.num=0↔y=0:=Rat.num_eq_zero
def ok_over(m:Γ 1=dB):∀d w,d.length=2->cY d=some w->run Γ lj 2 d=some w:=by
 intro d w _ h;obtain⟨x,y,e,f,l⟩:=dC h
 subst e;subst l;rw[Zl] at f;obtain⟨sx,sy⟩:=dD f.1
 have g:y≠0:=of_decide_eq_true f.2;have i:y.num≠0:=λz=>g (num_zero.mp z)
 have n:Bk x.num (y.den:Int)=true:=Bf sx.t (Be sy) vA vA;have o:Bk (x.den:Int) y.num=true:=Bf (Be sx) sy.t vA vA;have j:(x.den:Int)*y.num≠0:=λz=>by
  rcases Vd.mp z with z|z
  ·have:=den_pos x;omega
  ·exact i z
 have r:dB [.int (x.num*y.den),.int (x.den*y.num)]=some (.val (fr (x/y))):=by
  unfold dB;simp only
  rw[if_pos ⟨j,by rw[Z9];exact Zg (bu (Be sx) sy.t) (Bm vA)⟩,vG g]
 clear sx sy f j i g h;unfold lj;walk_at "evh"
def v7:∀d w,d.length=2->dE d=some w->run Γ fj 2 d=some w:=by
 intro d w _ h;obtain⟨x,y,e,f,g⟩:=dC h
 subst e;subst g;obtain⟨sx,sy⟩:=dD f
 have i:Bk x.num (y.den:Int)=true:=Bf sx.t (Be sy) vA vA;have j:Bk y.num (x.den:Int)=true:=Bf sy.t (Be sx) vA vA;rw[o7];clear sx sy f h;unfold fj;walk_at "evh"
end
open Sf
section
variable{Γ:Nat->∅}
def o8{d:Type}{l:List d}{i:Int}(e:0<=i)(f:i<l.length):L2.atI l i=l[i.toNat]?:=by
 unfold L2.atI L2.ixN;rw[if_pos e,if_pos f,Zv]
end
open Sf
section
variable{Γ:Nat->∅}
end
open Sf
section
variable{Γ:Nat->∅}
end
open Sf
def CC(q:Rat×Rat):D:=.tup [fr q.1,fr q.2]
def GY(q:Rat×Rat):lf (CC q)=true:=rfl
theorem bW:∀l:List (Rat×Rat),lfL (l.map CC)=true
 |[]=>rfl
 |p::l=>by rw[Zy];unfold lfL;rw[GY,bW l];rfl
section
variable{Γ:Nat->∅}
end
open Sf
mutual
theorem gK:∀(n:Nat) (d:D),dOk n d=true->eqD d d=true
 |_,.non,_=>rfl
 |_,.bl b,_=>by simp only[eqD,beq_self_eq_true]
 |_,.int i,_=>by simp[eqD]
 |0,.tup l,h=>by simp only[dOk] at h;cases h
 |n+1,.tup l,h=>by
  simp only[dOk] at h;simp only[eqD];exact CV n l h
 |0,.lst l,h=>by simp only[dOk] at h;cases h
 |n+1,.lst l,h=>by
  simp only[dOk] at h;simp only[eqD];exact CV n l h
 |_,.exc x,h=>by simp only[dOk] at h;cases h
theorem CV:∀(n:Nat) (l:List D),dOkL n l=true->eqL l l=true
 |_,[],_=>by simp only[eqL]
 |n,d::l,h=>by
  simp only[dOkL,Zl] at h;simp only[eqL,Zl];exact⟨gK n d h.1,CV n l h.2⟩
end
theorem gL:∀l:List (Rat×Rat),dOkL 49 (l.map CC)=true
 |[]=>rfl
 |q::l=>by
  rw[Zy];unfold dOkL;rw[gL l];rfl
def DY(n:Nat)(l:List (Rat×Rat)):Prop:=∀q∈l,Sz n q.1/\Sz n q.2
section
variable{Γ:Nat->∅}
end
open Sf
section
variable{Γ:Nat->∅}
end
open Sf
theorem jt{bt:D->CB->Option CB}{fb:CB->Option Out}{I:CB->Prop}:∀(l:List D),(∀d∈l,∀e,I e->∃i f,bt d e=some i/\fb i=some (.nx f)/\I f)->∀e,I e->∃g,forN bt fb l e=some (.nx g)/\I g
 |[],_,e,h=>⟨e,rfl,h⟩
 |d::l,j,e,h=>by
  obtain⟨i,f,m,n,o⟩:=j d (.head _) e h
  obtain⟨g,p,q⟩:=jt l (λx r=>j x (.tail _ r)) f o
  refine⟨g,?_,q⟩
  unfold forN;rw[m];simp only
  rw[n];exact p
abbrev H3:=Int×Int×Int
def hD(h:H3):D:=.tup [.int h.1,.int h.2.1,.int h.2.2]
structure HB(n:Nat)(h:H3):Prop where
 a:h.1.natAbs<2^n
 b:h.2.1.natAbs<2^n
 c:h.2.2.natAbs<2^n
def oR(a b c:Rat×Rat):Rat:=(b.1-a.1)*(c.2-a.2)-(b.2-a.2)*(c.1-a.1)
def CZ(a b:Rat×Rat):Prop:=a.1<b.1\/(a.1=b.1/\a.2<b.2)
def cast_pos{i:Int}:(0:Rat)<(i:Rat)↔0<i:=by
 rw[show(0:Rat)=((0:Int):Rat) from rfl,Yb]
def lJ(x:Rat):(x.num:Rat)=x*((x.den:Int):Rat):=by
 have d:=cast_pos.mpr (den_pos x);have h:((x.den:Int):Rat)≠0:=λz=>by rw[z] at d;exact absurd d vA
 have e:x=(x.num:Rat)/((x.den:Int):Rat):=by
  conv=>lhs;rw[<-Vn x,Rat.mkRat_eq_div]
  rw[Gb]
 have f:x*((x.den:Int):Rat)=(x.num:Rat)/((x.den:Int):Rat)*((x.den:Int):Rat):=by
  conv=>lhs;lhs;rw[e]
 rw[f,Gn h]
section
variable{Γ:Nat->∅}
structure IsShp(l:List (Rat×Rat)):Prop where
 three:3<=l.length
 first:∀k q0 q,l[0]? = some q0->l[k+1]? = some q->CZ q0 q
 conv:∀k a b c,l[(k+l.length-1)%l.length]? = some a->l[k]? = some b->c∈l->c≠a->c≠b->0<oR a b c
end
open Sf
section
variable{Γ:Nat->∅}
end
open Sf
section
variable{Γ:Nat->∅}
end
open Sf
def HI{l:List D}{a:Nat}(h:a<=l.length):cutD l none (some (a:Int))=l.take a:=by
 unfold cutD;rw[HT.sIx_none,HT.sIx_nat,Vj,Vy,Ju h]
def o9{l:List D}{a:Nat}(h:a<=l.length):cutD l (some (a:Int)) none=l.drop a:=by
 unfold cutD;rw[HT.sIx_none,HT.sIx_nat,Ju h,Ke (by rw[Yr];exact Zn _)]
section
variable{Γ Γ':Nat->∅}
end
open Sf
def t3(a b c:Rat):H3:=(a.num*((b.den:Int)*(c.den:Int)),b.num*((a.den:Int)*(c.den:Int)),c.num*((a.den:Int)*(b.den:Int)))
def g3(t:H3):Int:=gc (gc (gc 0 t.1) t.2.1) t.2.2
def D4(a b c:Rat):H3:=((t3 a b c).1.fdiv (g3 (t3 a b c)),(t3 a b c).2.1.fdiv (g3 (t3 a b c)),(t3 a b c).2.2.fdiv (g3 (t3 a b c)))
def ju(t:H3):g3 t∣t.1/\g3 t∣t.2.1/\g3 t∣t.2.2:=by
 unfold g3 gc;have d:=Qk (a:=((Int.gcd (Int.gcd 0 t.1:Int) t.2.1:Nat):Int)) (b:=t.2.2);have e:=Qk (a:=((Int.gcd 0 t.1:Nat):Int)) (b:=t.2.1);have f:=Wd (a:=0) (b:=t.1);have g:=Wd (a:=((Int.gcd 0 t.1:Nat):Int)) (b:=t.2.1);have h:=Wd (a:=((Int.gcd (Int.gcd 0 t.1:Int) t.2.1:Nat):Int)) (b:=t.2.2);exact⟨Wn d (Wn e f),Wn d g,h⟩
def HE{t:H3}{d:Int}(e:d∣t.1)(f:d∣t.2.1)(g:d∣t.2.2):d∣g3 t:=by
 unfold g3 gc;exact Ve (Ve (Ve (Int.dvd_zero d) e) f) g
def pa{t:H3}(h:t.1≠0\/t.2.1≠0\/t.2.2≠0):0<g3 t:=by
 have m:0<=g3 t:=Yx _;have n:g3 t≠0:=λe=>by
  obtain⟨d,f,g⟩:=ju t
  rw[e] at d f g;have i:=V4.mp d;have j:=V4.mp f;have l:=V4.mp g;rcases h with h|h|h
  ·exact h i
  ·exact h j
  ·exact h l
 omega
structure Low3(a b c:Rat)(t:H3):Prop where
 co:gc (gc t.1 t.2.1) t.2.2=1
 scale:∃k:Rat,0<k/\(t.1:Rat)=k*a/\(t.2.1:Rat)=k*b/\(t.2.2:Rat)=k*c
def v8{a b c:Rat}(h:a≠0\/b≠0):Low3 a b c (D4 a b c):=by
 have t:=den_pos a;have u:=den_pos b;have v:=den_pos c;have l:(t3 a b c).1≠0\/(t3 a b c).2.1≠0\/(t3 a b c).2.2≠0:=by
  rcases h with h|h
  ·left
   exact Ys (λe=>h (num_zero.mp e)) (Ys vB vB)
  ·right;left
   exact Ys (λe=>h (num_zero.mp e)) (Ys vB vB)
 have w:=pa l;obtain⟨⟨x,m⟩,⟨y,n⟩,⟨z,o⟩⟩:=ju (t3 a b c)
 have B:(t3 a b c).1.fdiv (g3 (t3 a b c))=x:=by
  conv=>lhs;lhs;rw[m]
  exact Z6 _ vB
 have C:(t3 a b c).2.1.fdiv (g3 (t3 a b c))=y:=by
  conv=>lhs;lhs;rw[n]
  exact Z6 _ vB
 have D:(t3 a b c).2.2.fdiv (g3 (t3 a b c))=z:=by
  conv=>lhs;lhs;rw[o]
  exact Z6 _ vB
 unfold D4;rw[B,C,D];generalize E:g3 (t3 a b c)=g at *;refine⟨?_,?_⟩
 ·have F:0<=gc (gc x y) z:=JX _ _;have G:gc (gc x y) z∣z:=Wd _ _;have r:gc (gc x y) z∣gc x y:=Qk _ _;have H:gc (gc x y) z∣x:=Wn r (Qk _ _);have I:gc (gc x y) z∣y:=Wn r (Wd _ _);simp only
  generalize gc (gc x y) z=d at *;have s:g*d∣g3 (t3 a b c):=HE (by rw[m];exact J1 g H) (by rw[n];exact J1 g I) (by rw[o];exact J1 g G);rw[E] at s;obtain⟨k,J⟩:=s
  have:d*k=1:=by
   apply Int.eq_of_mul_eq_mul_left (show g≠0 by omega)
   rw[<-Um,<-J,Ue]
  exact Int.eq_one_of_mul_eq_one_right F this
 ·have p:(0:Rat)<(g:Rat):=cast_pos.mpr w;have gi:=K0.mpr p;have f:(g:Rat)≠0:=λe=>by rw[e] at p;exact absurd p vA
  have A:=cast_pos.mpr t;have K:=cast_pos.mpr u;have L:=cast_pos.mpr v;refine⟨((a.den:Int):Rat)*((b.den:Int):Rat)*((c.den:Int):Rat)*(g:Rat)⁻¹,Zq (Zq (Zq A K) L) gi,?_,?_,?_⟩
  ·have q:((t3 a b c).1:Rat)=(g:Rat)*(x:Rat):=by rw[m,Yi]
   have i:((t3 a b c).1:Rat)=a*((a.den:Int):Rat)*(((b.den:Int):Rat)*((c.den:Int):Rat)):=by
    unfold t3;simp only[Yi];rw[lJ a]
   have j:(x:Rat)=(g:Rat)⁻¹*((g:Rat)*(x:Rat)):=by rw[<-Uj,Uk _ f,Kz]
   simp only
   rw[j,<-q,i];grind
  ·have q:((t3 a b c).2.1:Rat)=(g:Rat)*(y:Rat):=by rw[n,Yi]
   have i:((t3 a b c).2.1:Rat)=b*((b.den:Int):Rat)*(((a.den:Int):Rat)*((c.den:Int):Rat)):=by
    unfold t3;simp only[Yi];rw[lJ b]
   have j:(y:Rat)=(g:Rat)⁻¹*((g:Rat)*(y:Rat)):=by rw[<-Uj,Uk _ f,Kz]
   simp only
   rw[j,<-q,i];grind
  ·have q:((t3 a b c).2.2:Rat)=(g:Rat)*(z:Rat):=by rw[o,Yi]
   have i:((t3 a b c).2.2:Rat)=c*((c.den:Int):Rat)*(((a.den:Int):Rat)*((b.den:Int):Rat)):=by
    unfold t3;simp only[Yi];rw[lJ c]
   have j:(z:Rat)=(g:Rat)⁻¹*((g:Rat)*(z:Rat)):=by rw[<-Uj,Uk _ f,Kz]
   simp only
   rw[j,<-q,i];grind
def IJ{n:Nat}{a b c:Rat}(d:Sz n a)(e:Sz n b)(f:Sz n c):HB (n+(n+n)) (t3 a b c):=
 ⟨cN d.t (cN (Be e) (Be f)),cN e.t (cN (Be d) (Be f)),cN f.t (cN (Be d) (Be e))⟩
section
variable{Γ:Nat->∅}
def ea:∅:=run (tab [(0,B9)]) gs 6
def ok_lowest_whole(e:Γ 0=B9):∀d w,d.length=1->ea d=some w->run Γ gs 6 d=some w:=λd w _ h=>bq [(0,B9)] (by intro p f;rcases Zx.mp f with rfl;exact e) vA d w h
def lK{x d y:Int}(f:d≠0)(e:x=d*y):x.fdiv d=y:=by rw[e];exact Z6 _ f
abbrev cLw:E:=(.comp (.bin .mul (.ix (.var 1) (.int 0)) (.bin .fdiv (.var 2) (.ix (.var 1) (.int 1)))) (.name 1) (.seqV 0) 2 [1] .non)
abbrev fLw:E:=(.fm .tupl #v[.comp (.bin .fdiv (.var 1) (.var 2)) (.name 1) (.seqV 3) 2 [4] .non])
def v9(r:Γ 0=B9){h B1 C1:D}{a b c i j l g:Int}{O:D}(s:ixD h (.int 1)=some (.int a))(t:ixD B1 (.int 1)=some (.int b))(w:ixD C1 (.int 1)=some (.int c))(A:lf h=true)(C:lf B1=true)(F:lf C1=true)(G:Bk 1 a=true)(H:1*a=a)(I:Bk a b=true)(J:Bk (a*b) c=true)
 (o:∀x y u v,ev Γ cLw [some (.tup [h,B1,C1]),some (.int (a*b*c)),x,y,u,v]=some (.new [.int i,.int j,.int l]))(p:∀x y z u,ev Γ fLw [x,y,z,some (.lst [.int i,.int j,.int l]),some (.int g),u]=some (.val O))(K:gc (gc (gc 0 i) j) l=g):run Γ gs 6 [.tup [h,B1,C1]]=some (.val O):=by
 have q:∀a b c d e f:Option B,frz [a,b,c,d,e,f]=[a.map λx=>.sh x.d,b.map λx=>.sh x.d,c.map λx=>.sh x.d,d.map λx=>.sh x.d,e.map λx=>.sh x.d,f.map λx=>.sh x.d]:=λ_ _ _ _ _ _=>rfl
 have L:=@gI;unfold gs;unfold cLw at o;unfold fLw at p;generalize m:E.comp (.bin .mul (.ix (.var 1) (.int 0)) (.bin .fdiv (.var 2) (.ix (.var 1) (.int 1)))) (.name 1) (.seqV 0) 2 [1] .non=M at *;generalize n:E.fm .tupl _=N at *;clear m n;walk_at "evh"
 unfold forN;walk_at "evh"
 unfold forN;walk_at "evh"
 unfold forN;walk_at "evh"
 unfold forN;walk_at "evh"
 unfold forN;walk_at "evh"
 unfold forN;walk_at "evh"
 unfold forN;walk_at "evh"
 unfold forN;walk_at "evh"
def wa{n:Nat}{a b c:Rat}(d:Sz n a)(f:Sz n b)(j:Sz n c)(P:n<=1000)(o:a≠0\/b≠0):ea [.tup [fr a,fr b,fr c]]=some (.val (hD (D4 a b c))):=by
 unfold ea;generalize q:tab [(0,B9)]=Γ;have J:Γ 0=B9:=by rw[<-q];rfl
 have E:=den_pos a;have F:=den_pos b;have G:=den_pos c;have r:=IJ d f j;have i:(t3 a b c).1≠0\/(t3 a b c).2.1≠0\/(t3 a b c).2.2≠0:=by
  rcases o with h|h
  ·left
   exact Ys (λe=>h (num_zero.mp e)) (Ys vB vB)
  ·right;left
   exact Ys (λe=>h (num_zero.mp e)) (Ys vB vB)
 have H:=pa i;have w:(g3 (t3 a b c)).natAbs<2^(n+(n+n)):=by
  obtain⟨K,L,M⟩:=ju (t3 a b c)
  rcases i with h|h|h
  ·exact Wg (d8 K h) r.a
  ·exact Wg (d8 L h) r.b
  ·exact Wg (d8 M h) r.c
 have A:Bk 1 (a.den:Int)=true:=Bf (n:=n) (m:=1) vA (Be d) vA vB;have B:(1:Int)*(a.den:Int)=a.den:=Gh _;have C:Bk (a.den:Int) (b.den:Int)=true:=Bf (Be d) (Be f) vB vB;have D:Bk ((a.den:Int)*(b.den:Int)) (c.den:Int)=true:=Bf (cN (Be d) (Be f)) (Be j) vB vB;have o1:br (a.den:Int)=true:=cX vB (Be d) vB;have o2:br (b.den:Int)=true:=cX vB (Be f) vB;have o3:br (c.den:Int)=true:=cX vB (Be j) vB;have o4:br (g3 (t3 a b c))=true:=cX vB w vB;have Q:((a.den:Int)*(b.den:Int)*(c.den:Int)).fdiv (a.den:Int)=(b.den:Int)*(c.den:Int):=lK vB (by rw[Um]);have R:((a.den:Int)*(b.den:Int)*(c.den:Int)).fdiv (b.den:Int)=(a.den:Int)*(c.den:Int):=lK vB (by rw[Q9 (a.den:Int) (b.den:Int),Um]);have S:((a.den:Int)*(b.den:Int)*(c.den:Int)).fdiv (c.den:Int)=(a.den:Int)*(b.den:Int):=lK vB (by rw[Q9]);have T:Bk a.num ((b.den:Int)*(c.den:Int))=true:=Bf d.t (cN (Be f) (Be j)) vB vB;have U:Bk b.num ((a.den:Int)*(c.den:Int))=true:=Bf f.t (cN (Be d) (Be j)) vB vB;have V:Bk c.num ((a.den:Int)*(b.den:Int))=true:=Bf j.t (cN (Be d) (Be f)) vB vB;have I:∀x y u v,ev Γ (.comp (.bin .mul (.ix (.var 1) (.int 0)) (.bin .fdiv (.var 2) (.ix (.var 1) (.int 1)))) (.name 1) (.seqV 0) 2 [1] .non) [some (.tup [fr a,fr b,fr c]),some (.int ((a.den:Int)*(b.den:Int)*(c.den:Int))),x,y,u,v]=some (.new [.int (t3 a b c).1,.int (t3 a b c).2.1,.int (t3 a b c).2.2]):=by
  intro x y u v;have:=d7 (Γ:=Γ) (ρ:=[some (.tup [fr a,fr b,fr c]),some (.int ((a.den:Int)*(b.den:Int)*(c.den:Int))),x,y,u,v]) (elt:=.bin .mul (.ix (.var 1) (.int 0)) (.bin .fdiv (.var 2) (.ix (.var 1) (.int 1)))) (t:=.name 1) (it:=.seqV 0) (nt:=2) (fr:=[1]) (c:=.non) (l:=[(a,(t3 a b c).1),(b,(t3 a b c).2.1),(c,(t3 a b c).2.2)]) (g:=λp=>fr p.1) (h:=λp=>.int p.2) (by rfl) (by show 3<=PySem.sizeLine;decide) rfl (λp s=>?_)
  ·exact this
  ·simp only[Zf,Zk,or_false] at s;clear r i H w A C D o4 d f j E F G o q B;rcases s with rfl|rfl|rfl<;>unfold t3<;>walk_at "evh"
 have N:∀x y z u,ev Γ (.fm .tupl #v[.comp (.bin .fdiv (.var 1) (.var 2)) (.name 1) (.seqV 3) 2 [4] .non]) [x,y,z,some (.lst [.int (t3 a b c).1,.int (t3 a b c).2.1,.int (t3 a b c).2.2]),some (.int (g3 (t3 a b c))),u]=some (.val (hD (D4 a b c))):=by
  intro x y z u;have:=d7 (Γ:=Γ) (ρ:=[x,y,z,some (.lst [.int (t3 a b c).1,.int (t3 a b c).2.1,.int (t3 a b c).2.2]),some (.int (g3 (t3 a b c))),u]) (elt:=.bin .fdiv (.var 1) (.var 2)) (t:=.name 1) (it:=.seqV 3) (nt:=2) (fr:=[4]) (c:=.non) (l:=[(t3 a b c).1,(t3 a b c).2.1,(t3 a b c).2.2]) (g:=λp=>.int p) (h:=λp=>.int (p.fdiv (g3 (t3 a b c)))) (by rfl) (by show 3<=PySem.sizeLine;decide) rfl (λp s=>by
    clear s r i H w A C D d f j E F G o q I B;walk_at "evh")
  rw[ev_fm,oy,ox];unfold evd;rw[this];rfl
 have O:gc (gc (gc 0 (t3 a b c).1) (t3 a b c).2.1) (t3 a b c).2.2=g3 (t3 a b c):=rfl;exact v9 J ixf1 ixf1 ixf1 lff lff lff A B C D I N O
end
open Sf
def bX{d:Type}(l:List d):List (d×d):=l.zip (l.drop 1++l.take 1)
def gM{d:Type}(l:List d):(bX l).length=l.length:=by
 unfold bX;rw[Jr,Z8,Yr,Wb];omega
def pd{f:Type}{l:List f}{k:Nat}{p:f×f}(h:(bX l)[k]? = some p):l[k]? = some p.1/\l[(k+1)%l.length]? = some p.2:=by
 have g:k<l.length:=by
  have:=(Zi.mp h).1
  rw[gM] at this;exact this
 unfold bX at h;rw[Q3] at h;refine⟨h.1,?_⟩
 have d:=h.2;rcases Yk (k+1) l.length with q|q
 ·rw[Yc (by rw[Yr];omega),Uh,V3] at d;rw[Zh q];exact d
 ·have e:k+1=l.length:=by omega
  rw[Ye (by rw[Yr];omega),Yr,show k-(l.length-1)=0 by omega,Jh vA] at d;rw[e,K8];exact d
theorem zip_map(l:List (Rat×Rat)):CN (l.map CC) ((l.map CC).drop 1++(l.map CC).take 1)=(bX l).map λp=>D.tup [CC p.1,CC p.2]:=by
 unfold CN bX;rw[<-Vr,<-Ug,<-Yl,List.zip_map,Yg];rfl
def cu(s e:Rat×Rat):H3:=D4 (s.2-e.2) (e.1-s.1) ((s.2-e.2)*s.1+(e.1-s.1)*s.2)
def pe{s e:Rat×Rat}(h:s≠e):s.2-e.2≠0\/e.1-s.1≠0:=by
 refine Y0 λd=>h ?_
 have f:s.2-e.2=0:=Y0 λz=>d (.inl z)
 have g:e.1-s.1=0:=Y0 λz=>d (.inr z)
 refine Yt ?_ ?_
 ·grind
 ·grind
section
variable{Γ:Nat->∅}
def cZ:∅:=run (tab []) jb 1
def ok_steps:∀d w,d.length=1->cZ d=some w->run Γ jb 1 d=some w:=λd w _ h=>bq [] (λp e=>by cases e) vA d w h
def wb{L:List D}(d:1<=L.length)(e:L.length<=1000):cZ [.lst L]=some (.new (CN L (L.drop 1++L.take 1))):=by
 have f:=o9 (l:=L) (a:=1) d;have g:=HI (l:=L) (a:=1) d;rw[show((1:Nat):Int)=1 from rfl] at f g;have h:Df .add (.lst (L.drop 1)) (.lst (L.take 1))=some (.new (L.drop 1++L.take 1)):=by
  show(if _ then some (W.new _) else none)=_;rw[if_pos (by rw[Gc,Yr,Wb];omega)]
 have i:fmW .zip [.lst L,.lst (L.drop 1++L.take 1)]=some (.new (CN L (L.drop 1++L.take 1))):=by
  show(if _ then some (W.new _) else none)=_;rw[if_pos (by rw[Z8,Yr,Wb];omega)]
 generalize CN L (L.drop 1++L.take 1)=Z at *;generalize L.drop 1++L.take 1=Y at *;generalize L.drop 1=j at *;generalize L.take 1=m at *;clear d e;unfold cZ jb;walk_at "evh"
abbrev jv:List (Nat×(∅)):=[(9,cq),(10,bB),(11,bw),(43,ea)]
def da:∅:=run (tab jv) jc 5
def ok_side_between(j:Γ 9=cq)(f:Γ 10=bB)(g:Γ 11=bw)(i:Γ 43=ea):∀d w,d.length=2->da d=some w->run Γ jc 5 d=some w:=λd w _ h=>bq jv (by
 intro p e;simp only[jv,Zf,Zk,or_false] at e;rcases e with rfl|rfl|rfl|rfl<;>assumption) vA d w h
def wc{s e:Rat×Rat}(d:Sz 165 s.1)(f:Sz 165 s.2)(i:Sz 165 e.1)(j:Sz 165 e.2)(h:s≠e):da [CC s,CC e]=some (.val (hD (cu s e))):=by
 unfold da;generalize g:tab jv=Γ;have u:Γ 9=cq:=by rw[<-g];rfl
 have p:Γ 10=bB:=by rw[<-g];rfl
 have q:Γ 11=bw:=by rw[<-g];rfl
 have r:Γ 43=ea:=by rw[<-g];rfl
 have l:=f.sub j;have m:=i.sub d;have v:bB [fr s.2,fr e.2]=some (.val (fr (s.2-e.2))):=bz (Br f j vA vA);have w:bB [fr e.1,fr s.1]=some (.val (fr (e.1-s.1))):=bz (Br i d vA vA);have z:bw [fr (s.2-e.2),fr s.1]=some (.val (fr ((s.2-e.2)*s.1))):=bz (Br l d vA vA);have A:bw [fr (e.1-s.1),fr s.2]=some (.val (fr ((e.1-s.1)*s.2))):=bz (Br m f vA vA);have B:cq [fr ((s.2-e.2)*s.1),fr ((e.1-s.1)*s.2)]=some (.val (fr ((s.2-e.2)*s.1+(e.1-s.1)*s.2))):=bz (Br (l.mul d) (m.mul f) vA vA);have n:=(l.mul d).add (m.mul f);have t:=wa (l.mono (show 165+165+1<=1000 by decide)) (m.mono (show 165+165+1<=1000 by decide)) (n.mono (show(165+165+1+165)+(165+165+1+165)+1<=1000 by decide)) vA (pe h);have o:hD (D4 (s.2-e.2) (e.1-s.1) ((s.2-e.2)*s.1+(e.1-s.1)*s.2))=hD (cu s e):=rfl;rw[o] at t;generalize hD (cu s e)=O at *;clear l m n d f i j h g o;unfold jc CC;walk_at "evh"
def ec:∅:=run (tab [(41,cZ),(42,da)]) gq 1
def ok_sides_of(f:Γ 41=cZ)(g:Γ 42=da):∀d w,d.length=1->ec d=some w->run Γ gq 1 d=some w:=λd w _ h=>bq [(41,cZ),(42,da)] (by
 intro p e;simp only[Zf,Zk,or_false] at e;rcases e with rfl|rfl<;>assumption) vA d w h
def cB(l:List (Rat×Rat)):List H3:=(bX l).map λp=>cu p.1 p.2
def we{l:List (Rat×Rat)}(g:l.Nodup)(n:2<=l.length){p:(Rat×Rat)×(Rat×Rat)}(h:p∈bX l):p.1≠p.2/\p.1∈l/\p.2∈l:=by
 obtain⟨k,i⟩:=Qx h
 obtain⟨d,f⟩:=pd i
 refine⟨λe=>?_,Yh d,Yh f⟩
 rw[e] at d;obtain⟨l1,j⟩:=Zi.mp d
 obtain⟨l2,m⟩:=Zi.mp f
 have:=(Kr g).mp (j.trans m.symm)
 rcases Yk (k+1) l.length with q|q
 ·rw[Zh q] at this;omega
 ·rw[show k+1=l.length by omega,K8] at this;omega
def wg{l:List (Rat×Rat)}(f:l.Nodup)(h:2<=l.length)(i:l.length<=1000)(e:DY 165 l):ec [.lst (l.map CC)]=some (.new ((cB l).map hD)):=by
 unfold ec;generalize d:tab [(41,cZ),(42,da)]=Γ;have t:Γ 41=cZ:=by rw[<-d];rfl
 have u:Γ 42=da:=by rw[<-d];rfl
 have j:=wb (L:=l.map CC) (by rw[Zc];omega) (by rw[Zc];exact i);rw[zip_map] at j;have pl:=gM l;have m:ev Γ (.comp (.call 42 #v[.var 1,.var 2]) (.tup [1,2]) (.seq (.call 41 #v[.var 0])) 3 [] .non) [some (.lst (l.map CC))]=some (.new ((bX l).map λp=>hD (cu p.1 p.2))):=by
  refine d7 (g:=λp=>D.tup [CC p.1,CC p.2]) ?_ (by rw[Gc];omega) rfl λp r=>?_
  ·generalize (bX l).map (λp=>D.tup [CC p.1,CC p.2])=Z at *;clear f h i e d pl;walk_at "evh"
  ·obtain⟨s,n,o⟩:=we f h r
   have v:=wc (e _ n).1 (e _ n).2 (e _ o).1 (e _ o).2 s;generalize hD (cu p.1 p.2)=O at *;generalize CC p.1=x at *;generalize CC p.2=y at *;clear f h i e d pl s n o r j;walk_at "evh"
 unfold cB;rw[Yg];show run Γ gq 1 _=some (.new ((bX l).map λp=>hD (cu p.1 p.2)));generalize ((bX l).map λp=>hD (cu p.1 p.2))=O at *;unfold gq;generalize q:E.comp _ _ _ _ _ _=w at *;clear f h i e d pl q j;walk_at "evh"
end
open Sf
section
variable{Γ:Nat->∅}
end
open Sf
section
variable{Γ:Nat->∅}
end
open Sf
def lv(a b:Int)(q:Rat×Rat):Rat:=(a:Rat)*q.1+(b:Rat)*q.2
def dc{n:Nat}{a:Int}(h:a.natAbs<2^n)(d:1<=n):Sz n (a:Rat):=⟨h,Zg (show 1<2^1 by decide) (Bm d)⟩
def mx(a b:Int):Rat->List (Rat×Rat)->Rat
 |x,[]=>x
 |x,q::r=>mx a b (if x<lv a b q then lv a b q else x) r
theorem Fe(a b:Int):∀(r:List (Rat×Rat)) (x:Rat),x<=mx a b x r/\(∀q∈r,lv a b q<=mx a b x r)/\(mx a b x r=x\/∃q∈r,mx a b x r=lv a b q)
 |[],x=>⟨Qb,λq h=>(nomatch h),.inl rfl⟩
 |q::r,x=>by
  obtain⟨f,g,i⟩:=Fe a b r (if x<lv a b q then lv a b q else x)
  have e:mx a b x (q::r)=mx a b (if x<lv a b q then lv a b q else x) r:=rfl;rw[e];by_cases c:x<lv a b q
  ·rw[if_pos c] at f g i |-;refine⟨Kn (Z5 c) f,λz d=>?_,?_⟩
   ·rcases Zf.mp d with e|e
    ·rw[e];exact f
    ·exact g z e
   ·rcases i with e|⟨z,d,e⟩
    ·exact .inr ⟨q,.head _,e⟩
    ·exact .inr ⟨z,.tail _ d,e⟩
  ·rw[if_neg c] at f g i |-;refine⟨f,λz d=>?_,?_⟩
   ·rcases Zf.mp d with e|e
    ·rw[e];exact Kn (Rat.not_lt.mp c) f
    ·exact g z e
   ·rcases i with e|⟨z,d,e⟩
    ·exact .inl e
    ·exact .inr ⟨z,.tail _ d,e⟩
section
variable{Γ:Nat->∅}
abbrev jw:List (Nat×(∅)):=[(9,cq),(11,bw)]
def cO:∅:=run (tab jw) jd 3
def ok_level(g:Γ 9=cq)(f:Γ 11=bw):∀d w,d.length=3->cO d=some w->run Γ jd 3 d=some w:=λd w _ h=>bq jw (by
 intro p e;simp only[jw,Zf,Zk,or_false] at e;rcases e with rfl|rfl<;>assumption) vA d w h
abbrev jx:List (Nat×(∅)):=[(50,cO),(21,dE)]
def dg:∅:=run (tab jx) gv 6
abbrev jy:Ss:=#v[.asg 5 (.call 50 #v[.var 1,.var 2,.var 4]),.iff (.call 21 #v[.var 3,.var 5]) #v[.asg 3 (.var 5)] .nil]
end
open Sf
def lM(a b:Rat):a<b\/a=b\/b<a:=by
 by_cases h:a<b
 ·exact .inl h
 ·by_cases e:a=b
  ·exact .inr (.inl e)
  ·exact .inr (.inr (by grind))
def wh(a:Rat×Rat):¬CZ a a:=λh=>by
 rcases h with h|⟨_,h⟩<;>exact Rat.lt_irrefl h
def wj(a b:Rat×Rat):CZ a b\/a=b\/CZ b a:=by
 rcases lM a.1 b.1 with h|h|h
 ·exact .inl (.inl h)
 ·rcases lM a.2 b.2 with k|k|k
  ·exact .inl (.inr ⟨h,k⟩)
  ·exact .inr (.inl (Yt h k))
  ·exact .inr (.inr (.inr ⟨h.symm,k⟩))
 ·exact .inr (.inr (.inl h))
def Dv{d:Type}(l:List d)(k:Nat):List d:=l.drop k++l.take k
def ef{d:Type}{l:List d}{k:Nat}:(Dv l k).length=l.length:=by
 unfold Dv;rw[Z8,Yr,Wb];omega
def jz{d:Type}{l:List d}{k i:Nat}(e:k<l.length)(f:i<l.length):(Dv l k)[i]? = l[(i+k)%l.length]?:=by
 unfold Dv;rcases Yk (i+k) l.length with h|h
 ·rw[Yc (by rw[Yr];omega),Uh,Zh h,V3]
 ·rw[Ye (by rw[Yr];omega),Yr,Jh vB,K9 h,Zh vB];congr 1
  omega
def rot_mem{d:Type}{l:List d}{k:Nat}{x:d}:x∈Dv l k↔x∈l:=by
 unfold Dv;rw[Yw,Or.comm,<-Yw,List.take_append_drop]
def pf{d e:Type}(f:d->e)(l:List d)(k:Nat):(Dv l k).map f=Dv (l.map f) k:=by
 unfold Dv;rw[Yl,Vr,Ug]
structure Fst(l:List (Rat×Rat))(k:Nat):Prop where
 lt:k<l.length
 low:∀j p q,j≠k->l[k]? = some p->l[j]? = some q->CZ p q
def IsShp.of_rot{l:List (Rat×Rat)}{k:Nat}(r:3<=l.length)(conv:∀k a b c,l[(k+l.length-1)%l.length]? = some a->l[k]? = some b->c∈l->c≠a->c≠b->0<oR a b c)(m:Fst l k):IsShp (Dv l k):=by
 have d:=m.lt;refine⟨by rw[ef];exact r,λj u q n f=>?_,λj a b c o g p s t=>?_⟩
 ·have h:j+1<l.length:=by
   have:=(Zi.mp f).1
   rw[ef] at this;exact this
  rw[jz d vB,W8,Zh d] at n;rw[jz d h] at f;refine m.low _ _ _ ?_ n f;rcases Yk (j+1+k) l.length with z|z
  ·rw[Zh z];omega
  ·rw[K9 z,Zh vB];omega
 ·have i:j<l.length:=by
   have:=(Zi.mp g).1
   rw[ef] at this;exact this
  rw[ef,jz d (Wi _ vB)] at o;rw[jz d i] at g;rw[rot_mem] at p;refine conv ((j+k)%l.length) a b c ?_ g p s t;rw[<-o];congr 1
  have e:((j+k)%l.length+l.length-1)%l.length=((j+k)%l.length+(l.length-1))%l.length:=by congr 1;omega
  rw[e,Ud,Jk,<-Ud,Ud ((j+l.length-1)%l.length),Jk,<-Ud];congr 1
  omega
namespace Mg
open DL
abbrev V:=Rat×Rat
def xr(u v:V):Rat:=u.1*v.2-u.2*v.1
def mn(a b:V):V:=(a.1-b.1,a.2-b.2)
def pl(a b:V):V:=(a.1+b.1,a.2+b.2)
def ng(u:V):V:=(-u.1,-u.2)
def up(u:V):Prop:=0<u.1\/(u.1=0/\0<u.2)
def dF(u v:V):xr u v = - xr v u:=by unfold xr;grind
def ph(u v:V):xr (ng u) v = - xr u v:=by unfold xr ng;grind
def lN(u v:V):xr u (ng v) = - xr u v:=by unfold xr ng;grind
def EN(u v:V):xr (ng u) (ng v)=xr u v:=by unfold xr ng;grind
def Ij(u v w:V):xr u (pl v w)=xr u v+xr u w:=by unfold xr pl;grind
def cC{a b:Rat}(d:0<b)(h:0<=a*b):0<=a:=by
 by_cases k:0<=a
 ·exact k
 ·have:=Zq (show 0 < -a by grind) d
  grind
def Ex{u:V}(h:up u):0<=u.1:=by rcases h with h|h<;>grind
def lP{u v w:V}(l:up u)(d:up v)(f:up w)(m:0<=xr u v)(n:0<=xr v w):0<=xr u w:=by
 have g:=Ex l;have i:=Ex f;rcases d with d|⟨v1,j⟩
 ·refine cC d ?_;have e:xr u w*v.1=xr u v*w.1+xr v w*u.1:=by unfold xr;grind
  rw[e];have a:=Zp m i;have b:=Zp n g;grind
 ·have o:w.1=0:=by
   have a:=Zp (Z5 j) i;have e:xr v w = - (v.2*w.1):=by unfold xr;rw[v1];grind
   by_cases k:w.1=0
   ·exact k
   ·have:=Zq j (show 0<w.1 by grind)
    grind
  have p:0<w.2:=by rcases f with h|h<;>grind
  have e:xr u w=u.1*w.2:=by unfold xr;rw[o];grind
  rw[e];exact Zp g (Z5 p)
def pj{u v w:V}(d:up u)(e:up v)(f:up w)(h:0<xr u v)(g:0<=xr v w):0<xr u w:=by
 by_cases k:0<xr u w
 ·exact k
 ·have:=lP e f d g (by rw[dF];grind)
  rw[dF] at this;grind
def bf(u v:V):Prop:=(up u/\up (ng v))\/(up u/\up v/\0<xr u v)\/(up (ng u)/\up (ng v)/\0<xr u v)
def jA{u:V}(h:up u)(k:up (ng u)):False:=by
 unfold up ng at *;rcases h with h|h<;>rcases k with k|k<;>grind
def wm{u v w:V}(h:bf u v)(k:bf v w):bf u w:=by
 rcases h with⟨a,b⟩|⟨a,b,c⟩|⟨a,b,c⟩<;>rcases k with⟨d,e⟩|⟨d,e,f⟩|⟨d,e,f⟩
 ·exact(jA d b).elim
 ·exact(jA d b).elim
 ·exact .inl ⟨a,e⟩
 ·exact .inl ⟨a,e⟩
 ·exact .inr (.inl ⟨a,e,pj a b e c (Z5 f)⟩)
 ·exact .inl ⟨a,e⟩
 ·exact(jA d b).elim
 ·exact(jA d b).elim
 ·refine .inr (.inr ⟨a,e,?_⟩);rw[<-EN] at c f |-;exact pj a b e c (Z5 f)
structure Poly(P:Nat->V)(n:Nat):Prop where
 three:3<=n
 per:∀i,P (i+n)=P i
 conv:∀i k,0<=xr (mn (P (i+1)) (P i)) (mn (P k) (P i))
 turn:∀i,0<xr (mn (P (i+1)) (P i)) (mn (P (i+2)) (P (i+1)))
 fst:up (mn (P 1) (P 0))
 lst:up (ng (mn (P n) (P (n-1))))
 half:∀i,up (mn (P (i+1)) (P i))\/up (ng (mn (P (i+1)) (P i)))
 mono:∀i,i+1<n->up (ng (mn (P (i+1)) (P i)))->up (ng (mn (P (i+2)) (P (i+1))))
 low:∀k,0<k->k<n->up (mn (P k) (P 0))
def ed(P:Nat->V)(i:Nat):V:=mn (P (i+1)) (P i)
variable{P Q:Nat->V}{n m:Nat}
def Poly.next(h:Poly P n){i:Nat}(d:i+1<n):bf (ed P i) (ed P (i+1)):=by
 have t:=h.turn i;rcases h.half i with a|a
 ·rcases h.half (i+1) with b|b
  ·exact .inr (.inl ⟨a,b,t⟩)
  ·exact .inl ⟨a,b⟩
 ·exact .inr (.inr ⟨a,h.mono i d a,t⟩)
end Mg
namespace Mg
open DL
variable{P Q:Nat->V}{n m:Nat}
end Mg
namespace Mg
open DL
variable{P Q:Nat->V}{n m:Nat}
def pk{a b:Rat}(d:0<b)(h:b*a=0):a=0:=by
 rcases lM a 0 with k|k|k
 ·have:=Zq d (show 0 < -a by grind);grind
 ·exact k
 ·have:=Zq d k;grind
end Mg
namespace Mg
open DL
variable{P Q:Nat->V}{n m:Nat}
def lQ{u v:V}(h:up u)(k:up v):up (pl u v):=by
 unfold up pl at *;dsimp only;rcases h with h|h<;>rcases k with k|k
 ·exact .inl (by grind)
 ·exact .inl (by grind)
 ·exact .inl (by grind)
 ·exact .inr ⟨by grind,by grind⟩
def ltR_up{a b:V}:CZ a b↔up (mn b a):=by
 unfold CZ up mn;dsimp only;constructor
 ·rintro(h|⟨h,k⟩)
  ·exact .inl (by grind)
  ·exact .inr ⟨by grind,by grind⟩
 ·rintro(h|⟨h,k⟩)
  ·exact .inl (by grind)
  ·exact .inr ⟨by grind,by grind⟩
def wo(u:V):mn u u=(0,0):=by unfold mn;exact Yt (by dsimp only;grind) (by dsimp only;grind)
end Mg
namespace Mg
open DL
variable{P Q:Nat->V}{n m:Nat}
def CD(l:List V)(i:Nat):V:=l.getD (i%l.length) (0,0)
def By{l:List V}(h:0<l.length)(i:Nat):l[i%l.length]? = some (CD l i):=by
 unfold CD;have:=Wi i h
 rw[Yf,Zj this];rfl
def Bs{l:List V}(h:0<l.length)(i:Nat):CD l i∈l:=Yh (By h i)
def jB{l:List V}(d:l.Nodup)(h:0<l.length){i j:Nat}(e:CD l i=CD l j):i%l.length=j%l.length:=by
 have a:=By h i;have b:=By h j;have f:=Wi i h;rw[<-e,<-a] at b;exact((List.getElem?_inj f d).mp b.symm)
def wq(u:V):xr u u=0:=by unfold xr;grind
def Lw(u:V):xr u (0,0)=0:=by unfold xr;grind
def wt{e f d:V}(i:up e)(j:up (ng f))(hD:0<xr f e)(a:0<=xr f d)(b:0<=xr e d)(h:up (ng d)):False:=by
 have l:xr f e*d.1=xr f d*e.1+xr e d*(ng f).1:=by unfold xr ng;grind
 have p:xr f e*d.2=xr f d*e.2+xr e d*(ng f).2:=by unfold xr ng;grind
 generalize ng f=g at *;generalize xr f e=D at *;generalize xr f d=x at *;generalize xr e d=y at *;have m:=Ex i;have n:=Ex j;have q:=Zp a m;have r:=Zp b n;have s:0<=d.1:=cC hD (by grind);unfold up ng at h;dsimp only at h;rcases h with h|⟨h,o⟩
 ·grind
 ·have z:d.1=0:=by grind
  rw[z] at l;have t:x*e.1=0:=by grind
  have u:y*g.1=0:=by grind
  have v:0<=x*e.2:=by
   rcases i with k|⟨_,k⟩
   ·have:x=0:=pk k (by grind)
    rw[this];grind
   ·exact Zp a (Z5 k)
  have w:0<=y*g.2:=by
   rcases j with k|⟨_,k⟩
   ·have:y=0:=pk k (by grind)
    rw[this];grind
   ·exact Zp b (Z5 k)
  have:0<=d.2:=cC hD (by grind)
  grind
def lR{l:List V}(h:IsShp l)(q:l.Nodup):Poly (CD l) l.length:=by
 have t:=h.three;have f:0<l.length:=by omega
 have per:∀i,CD l (i+l.length)=CD l i:=λi=>by unfold CD;rw[Yo]
 have r:∀i k,CD l k≠CD l i->CD l k≠CD l (i+1)->0<oR (CD l i) (CD l (i+1)) (CD l k):=λi k n o=>by
  refine h.conv ((i+1)%l.length) _ _ _ ?_ (By f (i+1)) (Bs f k) n o;have:((i+1)%l.length+l.length-1)%l.length=i%l.length:=by
   have a:=Wi (i+1) f;have e:(i+1)%l.length+l.length-1=(i+1)%l.length+(l.length-1):=by omega
   rw[e,W4,show i+1+(l.length-1)=i+l.length by omega,Yo]
  rw[this];exact By f i
 have s:∀a b c:V,oR a b c=xr (mn b a) (mn c a):=λa b c=>by unfold oR xr mn;rfl
 have conv:∀i k,0<=xr (mn (CD l (i+1)) (CD l i)) (mn (CD l k) (CD l i)):=λi k=>by
  by_cases n:CD l k=CD l i
  ·rw[n,wo,Lw];exact Qb
  ·by_cases o:CD l k=CD l (i+1)
   ·rw[o,wq];exact Qb
   ·have:=r i k n o
    rw[s] at this;exact Z5 this
 have m:∀i,CD l (i+1)≠CD l i:=λi e=>by
  have:=jB q f e
  have a:=Wi i f;rw[<-W4] at this;rcases Yk (i%l.length+1) l.length with k|k
  ·rw[Zh k] at this;omega
  ·rw[show i%l.length+1=l.length by omega,K8] at this;omega
 have p:∀i,CD l (i+2)≠CD l i:=λi e=>by
  have:=jB q f e
  have a:=Wi i f;rw[<-W4] at this;rcases Yk (i%l.length+2) l.length with k|k
  ·rw[Zh k] at this;omega
  ·rw[show i%l.length+2=i%l.length+2-l.length+l.length by omega,Yo,Zh vB] at this;omega
 have g:∀i,0<xr (mn (CD l (i+1)) (CD l i)) (mn (CD l (i+2)) (CD l (i+1))):=λi=>by
  have:=r i (i+2) (p i) (m (i+1))
  rw[s] at this;have e:xr (mn (CD l (i+1)) (CD l i)) (mn (CD l (i+2)) (CD l (i+1)))=xr (mn (CD l (i+1)) (CD l i)) (mn (CD l (i+2)) (CD l i)):=by
   generalize CD l (i+1)=b;generalize CD l (i+2)=c;unfold xr mn;grind
  rw[e];exact this
 have low:∀k,0<k->k<l.length->up (mn (CD l k) (CD l 0)):=λk C v=>by
  have a:=By f 0;have b:=By f k;rw[Q8] at a;rw[Zh v] at b;rw[show k=k-1+1 by omega] at b;rw[<-ltR_up];have:=h.first (k-1) _ _ a b
  rw[show k-1+1=k by omega] at this;exact this
 have j:∀i,up (mn (CD l (i+1)) (CD l i))\/up (ng (mn (CD l (i+1)) (CD l i))):=λi=>by
  rcases wj (CD l i) (CD l (i+1)) with k|k|k
  ·exact .inl (ltR_up.mp k)
  ·exact absurd k.symm (m i)
  ·refine .inr ?_;have:=ltR_up.mp k
   have e:ng (mn (CD l (i+1)) (CD l i))=mn (CD l i) (CD l (i+1)):=by
    unfold ng mn;exact Yt (by dsimp only;grind) (by dsimp only;grind)
   rw[e];exact this
 refine⟨t,per,conv,g,low 1 vB vB,?_,j,?_,low⟩
 ·have e:=per 0;rw[W8] at e;rw[e];have:=low (l.length-1) vB vB
  have e:ng (mn (CD l 0) (CD l (l.length-1)))=mn (CD l (l.length-1)) (CD l 0):=by
   unfold ng mn;exact Yt (by dsimp only;grind) (by dsimp only;grind)
  rw[e];exact this
 ·intro i w a;rcases j (i+1) with u|u
  ·exfalso
   have z:=low (i+1) vB w;have A:=conv (i+1) 0;have B:=conv i 0;refine wt (d:=mn (CD l 0) (CD l (i+1))) u a (g i) ?_ A ?_
   ·have e:xr (mn (CD l (i+1)) (CD l i)) (mn (CD l 0) (CD l (i+1)))=xr (mn (CD l (i+1)) (CD l i)) (mn (CD l 0) (CD l i)):=by
     generalize CD l (i+1)=b;generalize CD l 0=c;unfold xr mn;grind
    rw[e];exact B
   ·have e:ng (mn (CD l 0) (CD l (i+1)))=mn (CD l (i+1)) (CD l 0):=by
     unfold ng mn;exact Yt (by dsimp only;grind) (by dsimp only;grind)
    rw[e];exact z
  ·exact u
end Mg
namespace Mg
open DL
def JG(a b c:V):oR a b c=xr (mn b a) (mn c b):=by unfold oR xr mn;grind
def gN{l:List V}(h:IsShp l)(i:Nat){c:V}(f:c∈l)(n1:c≠CD l i)(n2:c≠CD l (i+1)):0<xr (mn (CD l (i+1)) (CD l i)) (mn c (CD l (i+1))):=by
 have d:0<l.length:=by have:=h.three;omega
 have g:=By d i;have j:=By d (i+1);rw[<-JG];refine h.conv ((i+1)%l.length) _ _ c ?_ j f n1 n2;rw[<-g];congr 1
 have e:((i+1)%l.length+l.length-1)%l.length=(i+1+l.length-1)%l.length:=by
  rw[Gz vB,W4,<-Gz vB]
 rw[e,show i+1+l.length-1=i+l.length by omega,Yo]
def pq{l:List V}(h:IsShp l){k:Nat}(f:k+1<l.length):CD l (k+1)≠CD l 0:=λe=>by
 have d:0<l.length:=by omega
 have a:=By d 0;have b:=By d (k+1);rw[Q8] at a;rw[Zh f] at b;have:=h.first k _ _ a b
 rw[e] at this;exact wh _ this
def gO{l:List V}(i:Nat):CD l (i+l.length)=CD l i:=by unfold CD;rw[Yo]
def other{l:List V}(h:IsShp l)(a:V):∃c,c∈l/\c≠a:=by
 have d:=h.three;by_cases e:CD l 0=a
 ·exact⟨CD l 1,Bs vB 1,λz=>pq h (show 0+1<l.length by omega) (by rw[e];exact z)⟩
 ·exact⟨_,Bs vB 0,e⟩
def lS{l:List V}(h:IsShp l)(i:Nat):CD l (i+1)≠CD l i:=λe=>by
 obtain⟨c,f,d⟩:=other h (CD l i)
 have:=gN h i f d (by rw[e];exact d)
 rw[e] at this;unfold xr mn at this;grind
def JH{l r:List V}(f:IsShp l)(g:IsShp r)(h:∀c∈l,c∈r)(d:∀c∈r,c∈l){i j:Nat}(e:CD l i=CD r j):CD l (i+1)=CD r (j+1):=by
 refine Y0 λm=>?_;have n:0<l.length:=by have:=f.three;omega
 have o:0<r.length:=by have:=g.three;omega
 have a:=gN f i (d _ (Bs o (j+1))) (by rw[e];exact lS g j) (Wz m);have b:=gN g j (h _ (Bs n (i+1))) (by rw[<-e];exact lS f i) m;rw[e] at a;have z:xr (mn (CD l (i+1)) (CD r j)) (mn (CD r (j+1)) (CD l (i+1))) = - xr (mn (CD r (j+1)) (CD r j)) (mn (CD l (i+1)) (CD r (j+1))):=by unfold xr mn;grind
 grind
theorem pw{l r:List V}(g:IsShp l)(h:IsShp r)(f:∀c∈l,c∈r)(d:∀c∈r,c∈l){i j:Nat}(e:CD l i=CD r j):∀t,CD l (i+t)=CD r (j+t)
 |0=>e
 |t+1=>JH g h f d (pw g h f d e t)
def nodup{l:List V}(h:IsShp l):l.Nodup:=by
 refine Vc.mpr (Jb.mpr λi j d f n e=>?_);have g:0<l.length:=by omega
 have gi:=By g i;have m:=By g j;rw[Zh d,Zj d] at gi;rw[Zh f,Zj f] at m;have o:CD l i=CD l j:=by rw[<-Zs gi,<-Zs m,e]
 have:=pw h h (λ_ z=>z) (λ_ z=>z) o (l.length-j)
 rw[show j+(l.length-j)=0+l.length by omega,gO] at this;obtain⟨k,p⟩:∃k,i+(l.length-j)=k+1:=⟨i+(l.length-j)-1,by omega⟩
 rw[p] at this;exact pq h vB this
def side{l:List V}(h:IsShp l)(i:Nat):∀c∈l,0<=xr (mn (CD l (i+1)) (CD l i)) (mn c (CD l (i+1))):=λc f=>by
 by_cases d:c=CD l i
 ·rw[d];unfold xr mn;grind
 ·by_cases e:c=CD l (i+1)
  ·rw[e];unfold xr mn;grind
  ·exact Z5 (gN h i f d e)
def side'{l:List V}(h:IsShp l)(i:Nat):∀c∈l,0<=xr (mn (CD l (i+1)) (CD l i)) (mn c (CD l i)):=λc d=>by
 have:=side h i c d
 unfold xr mn at *;grind
def ES{l:List V}(h:IsShp l)(i:Nat):0<xr (mn (CD l (i+1)) (CD l i)) (mn (CD l (i+2)) (CD l (i+1))):=by
 have f:=h.three;have d:0<l.length:=by omega
 refine gN h i (Bs d (i+2)) (λe=>?_) (lS h (i+1));have:=jB (nodup h) d e
 have g:=Wi i d;rw[Ud] at this;rcases Yk (i%l.length+2) l.length with k|k
 ·rw[Zh (show 2<l.length by omega),Zh k] at this;omega
 ·rw[Zh (show 2<l.length by omega),show i%l.length+2=(i%l.length+2-l.length)+l.length by omega,Yo,Zh vB] at this;omega
def sc(x:Rat)(q:V):V:=(q.1*x,q.2*x)
variable{P Q:Nat->V}{n m:Nat}
theorem Poly.srt(h:Poly P n){i:Nat}:∀{k:Nat},i<k->k<n->bf (ed P i) (ed P k)
 |0,a,_=>by omega
 |k+1,a,b=>by
  rcases Yk i k with c|c
  ·exact wm (h.srt c vB) (h.next b)
  ·have:i=k:=by omega
   subst this;exact h.next b
end Mg
namespace Mg
open DL
def IsShp.sized{l:List V}{x:Rat}(m:IsShp l)(i:0<x):IsShp (l.map (sc x)):=by
 refine⟨by rw[Zc];exact m.three,λk a b d g=>?_,λk a b c d g s t u=>?_⟩
 ·rw[Zm] at d g;obtain⟨p,n,e⟩:=Zb.mp d
  obtain⟨q,o,j⟩:=Zb.mp g
  have:=m.first k p q n o
  rw[<-e,<-j];rcases this with h|⟨v,B⟩
  ·refine .inl ?_;show p.1*x<q.1*x;have:=Zq (show 0<q.1-p.1 by grind) i
   grind
  ·refine .inr ⟨by show p.1*x=q.1*x;rw[v],?_⟩;show p.2*x<q.2*x;have:=Zq (show 0<q.2-p.2 by grind) i
   grind
 ·rw[Zc,Zm] at d;rw[Zm] at g;obtain⟨p,n,e⟩:=Zb.mp d
  obtain⟨q,o,j⟩:=Zb.mp g
  obtain⟨z,A,r⟩:=Zt.mp s
  have:=m.conv k p q z n o A (λw=>t (by rw[<-r,w,e])) λw=>u (by rw[<-r,w,j])
  rw[<-e,<-j,<-r];have f:oR (sc x p) (sc x q) (sc x z)=x*x*oR p q z:=by unfold oR sc;grind
  rw[f];exact Zq (Zq i i) this
def IsShp.pushed{l:List V}(m:IsShp l)(i:V):IsShp (l.map (pl i)):=by
 refine⟨by rw[Zc];exact m.three,λk a b d g=>?_,λk a b c d g s t u=>?_⟩
 ·rw[Zm] at d g;obtain⟨p,n,e⟩:=Zb.mp d
  obtain⟨q,o,j⟩:=Zb.mp g
  have:=m.first k p q n o
  rw[<-e,<-j];unfold CZ pl at *;dsimp only;rcases this with h|⟨A,B⟩
  ·exact .inl (by grind)
  ·exact .inr ⟨by grind,by grind⟩
 ·rw[Zc,Zm] at d;rw[Zm] at g;obtain⟨p,n,e⟩:=Zb.mp d
  obtain⟨q,o,j⟩:=Zb.mp g
  obtain⟨z,v,r⟩:=Zt.mp s
  have:=m.conv k p q z n o v (λw=>t (by rw[<-r,w,e])) λw=>u (by rw[<-r,w,j])
  rw[<-e,<-j,<-r];have f:oR (pl i p) (pl i q) (pl i z)=oR p q z:=by unfold oR pl;grind
  rw[f];exact this
variable{P Q:Nat->V}{n m:Nat}
end Mg
namespace Mg
open DL
end Mg
namespace Lb
open DL
abbrev Pt:=Int×Int
def oI(a b c:Pt):Int:=(b.1-a.1)*(c.2-a.2)-(b.2-a.2)*(c.1-a.1)
def pz(a b c:Pt):oI a b c=oI b c a:=by unfold oI;grind
def Tri:List Pt->Prop
 |[]=>True
 |x::l=>(l.Pairwise λy z=>0<oI x y z)/\Tri l
theorem Tri.get:∀{l:List Pt},Tri l->∀{i j k:Nat}{a b c:Pt},i<j->j<k->l[i]? = some a->l[j]? = some b->l[k]? = some c->0<oI a b c
 |[],_,_,_,_,_,_,_,_,_,h,_,_=>by simp at h
 |x::l,h,i,j,k,a,b,c,g,n,d,e,f=>by
  obtain⟨j,rfl⟩:∃m,j=m+1:=⟨j-1,by omega⟩
  obtain⟨k,rfl⟩:∃m,k=m+1:=⟨k-1,by omega⟩
  rw[Y7] at e f;cases i with
  |zero=>
   rw[Qg] at d;cases d;obtain⟨o,p⟩:=Zi.mp e
   obtain⟨q,r⟩:=Zi.mp f
   rw[<-p,<-r];exact Jb.mp h.1 j k o q vB
  |succ i=>
   rw[Y7] at d;exact Tri.get h.2 vB vB d e f
def Tri.conv{l:List Pt}(h:Tri l){k:Nat}{a b c:Pt}(d:l[(k+l.length-1)%l.length]? = some a)(f:l[k]? = some b)(i:c∈l)(g:c≠a)(j:c≠b):0<oI a b c:=by
 obtain⟨m,n,e⟩:=Qf i
 have gc:l[m]? = some c:=by rw[<-e];exact Zj n
 have o:=(Zi.mp f).1;have p:m≠k:=λz=>by rw[z,f] at gc;exact j (Zs gc).symm
 rcases Ul k with z|z
 ·subst z;rw[Zh vB] at d;have mn:m≠0+l.length-1:=λz=>by rw[z,d] at gc;exact g (Zs gc).symm
  rw[pz];exact h.get (show 0<m by omega) (show m<0+l.length-1 by omega) f gc d
 ·rw[show k+l.length-1=(k-1)+l.length by omega,Yo,Zh vB] at d;have mn:m≠k-1:=λz=>by rw[z,d] at gc;exact g (Zs gc).symm
  rcases Yk m (k-1) with q|q
  ·rw[<-pz];exact h.get q (show k-1<k by omega) gc d f
  ·exact h.get (show k-1<k by omega) (show k<m by omega) d f gc
def L3(a b:Pt):oI a a b=0:=by unfold oI;grind
def L1(a b:Pt):oI a b b=0:=by unfold oI;grind
def L0(a b:Pt):oI a b a=0:=by unfold oI;grind
def Tri.nodup{l:List Pt}(h:Tri l)(r:3<=l.length):l.Nodup:=by
 refine Vc.mpr (Jb.mpr λi j f n d e=>?_);have g:∀m (o:m<l.length),l[m]? = some l[m]:=λm o=>Zj o
 rcases Yk (j+1) l.length with q|q
 ·have:=h.get d (show j<j+1 by omega) (g i f) (g j n) (g (j+1) q)
  rw[e,L3] at this;exact absurd this (Uo _)
 ·rcases Yk (i+1) j with p|p
  ·have:=h.get (show i<i+1 by omega) p (g i f) (g (i+1) vB) (g j n)
   rw[e,L0] at this;exact absurd this (Uo _)
  ·have:=h.get (show i-1<i by omega) d (g (i-1) vB) (g i f) (g j n)
   rw[e,L1] at this;exact absurd this (Uo _)
theorem Tri.app:∀{l m:List Pt},Tri l->Tri m->(l.Pairwise λx y=>∀z∈m,0<oI x y z)->(∀x∈l,m.Pairwise λy z=>0<oI x y z)->Tri (l++m)
 |[],m,_,h,_,_=>h
 |x::l,m,e,g,i,f=>by
  obtain⟨j,n⟩:=We.mp i
  exact⟨Jv.mpr ⟨e.1,f x (.head _),λy d z o=>j y d z o⟩,Tri.app e.2 g n λy d=>f y (.tail _ d)⟩
def low2(x:Int):Pt:=(x,x*x)
def high2(t x:Int):Pt:=(x,t-x*x)
def JC(a b c:Int):oI (low2 a) (low2 b) (low2 c)=(b-a)*((c-a)*(c-b)):=by unfold oI low2;grind
def JF(t a b c:Int):oI (high2 t a) (high2 t b) (high2 t c)=(a-b)*((a-c)*(b-c)):=by unfold oI high2;grind
def JD(t a b h:Int):oI (low2 a) (low2 b) (high2 t h)=(b-a)*(t-(h*h+(a+b)*h-a*b)):=by unfold oI low2 high2;grind
def JE(t a g h:Int):oI (low2 a) (high2 t h) (high2 t g)=(h-g)*(t-(a*a+(g+h)*a-g*h)):=by unfold oI low2 high2;grind
theorem pA:∀{d:List Int},d.Pairwise (· < ·)->Tri (d.map low2)
 |[],_=>True.intro
 |x::d,h=>by
  obtain⟨e,f⟩:=We.mp h
  refine⟨Kf.mpr ?_,pA f⟩
  refine Qr (λ{y z} g i q=>?_) f;have:=e y g
  have:=e z i
  rw[JC];exact Wh vB (Wh vB vB)
theorem pB{t:Int}:∀{d:List Int},d.Pairwise (· > ·)->Tri (d.map (high2 t))
 |[],_=>True.intro
 |x::d,h=>by
  obtain⟨e,f⟩:=We.mp h
  refine⟨Kf.mpr ?_,pB f⟩
  refine Qr (λ{y z} g i q=>?_) f;have:=e y g
  have:=e z i
  rw[JF];exact Wh vB (Wh vB vB)
def KP{m h a b:Int}(d : -m<=h)(f:h<=m)(g : -m<=a)(i:a<=m)(b1 : -m<=b)(j:b<=m):h*h+(a+b)*h-a*b<=2*(m*m):=by
 have l:=Yy (show 0<=m+h by omega) (Yy (show 0<=m-a by omega) (show 0<=m-b by omega));have n:=Yy (show 0<=m-h by omega) (Yy (show 0<=m+a by omega) (show 0<=m+b by omega));have o:=Yy (show 0<=2*m by omega) (Yy (show 0<=m-h by omega) (show 0<=m+h by omega));have e:2*m*(2*(m*m)-(h*h+(a+b)*h-a*b))=(m+h)*((m-a)*(m-b))+(m-h)*((m+a)*(m+b))+2*m*((m-h)*(m+h)):=by grind
 by_cases z:m=0
 ·have:h=0:=by omega
  have:a=0:=by omega
  have:b=0:=by omega
  subst_vars
  decide
 ·refine Kl.mp λq=>?_;have:=Vo (show 0<2*m by omega) (show 2*(m*m)-(h*h+(a+b)*h-a*b)<0 by omega)
  omega
def tri_bows{t m:Int}{j l:List Int}(n:j.Pairwise (· < ·))(o:l.Pairwise (· > ·))(d:∀x∈j,-m<=x/\x<=m)(by_:∀y∈l,-m<=y/\y<=m)(w:2*(m*m)<t):Tri (j.map low2++l.map (high2 t)):=by
 refine Tri.app (pA n) (pB o) (Kf.mpr (Qr (λ{a b} f r q z u=>?_) n)) λp v=>Kf.mpr ?_
 ·obtain⟨h,i,e⟩:=Zt.mp u
  rw[<-e,JD];have:=KP (by_ h i).1 (by_ h i).2 (d a f).1 (d a f).2 (d b r).1 (d b r).2
  exact Wh vB vB
 ·obtain⟨a,f,e⟩:=Zt.mp v
  refine Qr (λ{h g} i s q=>?_) o;rw[<-e,JE];have:=KP (d a f).1 (d a f).2 (by_ g s).1 (by_ g s).2 (by_ h i).1 (by_ h i).2
  exact Wh vB vB
def crP(u v:Pt):Int:=u.1*v.2-u.2*v.1
def tri_box{u v:Pt}(h:0<crP u v):Tri [(0,0),u,(u.1+v.1,u.2+v.2),v]:=by
 unfold crP at h;simp only[Tri,oI,We,Zf,Zk,or_false,forall_eq_or_imp,forall_eq,List.Pairwise.nil,and_true,true_and,false_implies,implies_true];refine⟨⟨⟨?_,?_⟩,?_⟩,?_⟩<;>grind
def tri_3{u v:Pt}(h:0<crP u v):Tri [(0,0),u,v]:=by
 unfold crP at h;simp only[Tri,oI,We,Zf,Zk,or_false,forall_eq_or_imp,forall_eq,List.Pairwise.nil,and_true,true_and,false_implies,implies_true];grind
def tri_6{u v:Pt}(h:0<crP u v):Tri [(0,0),u,(u.1+(u.1+v.1),u.2+(u.2+v.2)),(2*(u.1+v.1),2*(u.2+v.2)),(v.1+(u.1+v.1),v.2+(u.2+v.2)),v]:=by
 unfold crP at h;simp only[Tri,oI,We,Zf,Zk,or_false,forall_eq_or_imp,forall_eq,List.Pairwise.nil,and_true,true_and,false_implies,implies_true];refine⟨⟨⟨?_,?_,?_,?_⟩,⟨?_,?_,?_⟩,⟨?_,?_⟩,?_⟩,⟨⟨?_,?_,?_⟩,⟨?_,?_⟩,?_⟩,⟨⟨?_,?_⟩,?_⟩,?_⟩<;>grind
def spot2(b f g s:Int)(p:Pt):Rat×Rat:=(Rat.divInt (p.1*b+f) s,Rat.divInt (p.2*b+g) s)
def gP(x y s:Int):Rat.divInt x s-Rat.divInt y s=((x-y:Int):Rat)*(s:Rat)⁻¹:=by
 rw[Kj,Kj,Ki,Ki,K3];grind
def EZ{s:Int}(d:1<=s):0<(s:Rat)⁻¹:=K0.mpr (by have:((0:Int):Rat)<(s:Rat):=Yb.mpr vB;exact this)
def wu{b f g s:Int}(j:1<=b)(i:1<=s){a c d:Pt}(h:0<oI a c d):0<oR (spot2 b f g s a) (spot2 b f g s c) (spot2 b f g s d):=by
 unfold oR spot2;dsimp only;rw[gP,gP,gP,gP];have k:=EZ i;generalize (s:Rat)⁻¹=t at *;have e:(((c.1*b+f)-(a.1*b+f):Int):Rat)*t*((((d.2*b+g)-(a.2*b+g):Int):Rat)*t)-(((c.2*b+g)-(a.2*b+g):Int):Rat)*t*((((d.1*b+f)-(a.1*b+f):Int):Rat)*t)=t*t*(((b*b*oI a c d:Int)):Rat):=by
  unfold oI;simp only[K3,Yi,K4];grind
 rw[e];have q:(0:Int)<b*b*oI a c d:=Wh (Wh vB vB) h;exact Zq (Zq k k) (Yb.mpr q)
def ltP(a b:Pt):Prop:=a.1<b.1\/(a.1=b.1/\a.2<b.2)
def wx{b f g s:Int}(m:1<=b)(d:1<=s){p q:Pt}(h:ltP p q):CZ (spot2 b f g s p) (spot2 b f g s q):=by
 have k:=EZ d;have up:∀x y c:Int,x<y->Rat.divInt (x*b+c) s<Rat.divInt (y*b+c) s:=λx y c z=>by
  have e:=gP (y*b+c) (x*b+c) s;have w:(0:Int)<(y*b+c)-(x*b+c):=by
   have:=Wh (show 0<y-x by omega) (show 0<b by omega)
   rw[Int.sub_mul] at this;omega
  have i:(0:Rat)<(((y*b+c)-(x*b+c):Int):Rat):=Yb.mpr w;have:=Zq i k
  grind
 unfold CZ spot2;rcases h with h|⟨j,l⟩
 ·exact .inl (up _ _ _ h)
 ·exact .inr ⟨by rw[j],up _ _ _ l⟩
structure LoP(R:List Pt)(k:Nat):Prop where
 lt:k<R.length
 low:∀j p q,j≠k->R[k]? = some p->R[j]? = some q->ltP p q
def shp2{R:List Pt}{k:Nat}(h:Tri R)(t:3<=R.length)(i:LoP R k){b f g s:Int}(l:1<=b)(m:1<=s):IsShp ((Dv R k).map (spot2 b f g s)):=by
 rw[pf];refine IsShp.of_rot (by rw[Zc];exact t) (λk a H c n d u v w=>?_) ⟨by rw[Zc];exact i.lt,λj p q A o r=>?_⟩
 ·rw[Zm,Zc] at n;rw[Zm] at d;obtain⟨I,B,rfl⟩:=Zb.mp n
  obtain⟨J,C,rfl⟩:=Zb.mp d
  obtain⟨K,e,rfl⟩:=Zt.mp u
  exact wu l m (h.conv B C e (λz=>v (by rw[z])) λz=>w (by rw[z]))
 ·rw[Zm] at o r;obtain⟨D,E,rfl⟩:=Zb.mp o
  obtain⟨F,G,rfl⟩:=Zb.mp r
  exact wx l m (i.low j D F A E G)
def wz(a b:Pt):ltP a b\/a=b\/ltP b a:=by
 unfold ltP;rcases G8 a.1 b.1 with h|h|h
 ·exact .inl (.inl h)
 ·rcases G8 a.2 b.2 with k|k|k
  ·exact .inl (.inr ⟨h,k⟩)
  ·exact .inr (.inl (Yt h k))
  ·exact .inr (.inr (.inr ⟨h.symm,k⟩))
 ·exact .inr (.inr (.inl h))
def ltP_trans{a b c:Pt}(d:ltP a b)(e:ltP b c):ltP a c:=by
 unfold ltP at *;omega
def ltP_irr(a:Pt):¬ltP a a:=by unfold ltP;omega
theorem lo_ex:∀{R:List Pt},R.Nodup->0<R.length->∃k,LoP R k
 |[],_,h=>absurd h vA
 |[p],_,_=>⟨0,K7 _,λj x y i _ d=>by
  cases j with
  |zero=>exact absurd rfl i
  |succ j=>simp at d⟩
 |p::q::R,o,_=>by
  obtain⟨n,r⟩:=Wo.mp o
  obtain⟨k,f⟩:=lo_ex r (K7 _)
  have l:(q::R)[k]? = some ((q::R)[k]'f.lt):=Zj f.lt;have m:(q::R)[k]'f.lt∈q::R:=Kq f.lt;rcases wz p ((q::R)[k]'f.lt) with h|h|h
  ·refine⟨0,K7 _,λj x y i g d=>?_⟩
   cases j with
   |zero=>exact absurd rfl i
   |succ j=>
    rw[Qg] at g;rw[Y7] at d;cases g;by_cases e:j=k
    ·subst e;rw[l] at d;cases d;exact h
    ·exact ltP_trans h (f.low j _ _ e l d)
  ·rw[h] at n;exact absurd m n
  ·refine⟨k+1,Nat.succ_lt_succ f.lt,λj x y i g d=>?_⟩
   rw[Y7,l] at g;cases g;cases j with
   |zero=>rw[Qg] at d;cases d;exact h
   |succ j=>
    rw[Y7] at d;exact f.low j _ _ vB l d
end Lb
namespace Fi
open Mg
def Eh{u:V}(h:up u)(k:up (ng u)):False:=by
 rcases h with h|⟨h,d⟩<;>rcases k with k|⟨k,e⟩<;>simp only[ng] at * <;> grind
def o1{j i k:V}(f:bf j i)(g:bf i k)(h:xr j i<=0):xr j k<=0:=by
 rcases f with⟨a,b⟩|⟨_,_,c⟩|⟨_,_,c⟩
 ·rcases g with⟨c,d⟩|⟨c,d,e⟩|⟨c,d,e⟩
  ·exact(Eh c b).elim
  ·exact(Eh c b).elim
  ·have x:=lP a b d (by rw[lN];grind) (by rw[EN];exact Z5 e);rw[lN] at x;grind
 ·grind
 ·grind
def o2{j i k:V}(f:bf i k)(g:bf k j)(h:xr j i<=0):xr j k<=0:=by
 rcases g with⟨a,b⟩|⟨_,_,c⟩|⟨_,_,c⟩
 ·rcases f with⟨c,d⟩|⟨c,d,e⟩|⟨c,d,e⟩
  ·exact(Eh a d).elim
  ·have x:=lP b c d (by rw[ph];grind) (Z5 e);rw[ph] at x;grind
  ·exact(Eh a d).elim
 ·have:=dF j k;grind
 ·have:=dF j k;grind
def o3{j i k:V}(f:bf j i)(g:bf k j)(h:xr j i<=0):xr j k<=0:=by
 rcases f with⟨a,b⟩|⟨_,_,c⟩|⟨_,_,c⟩
 ·rcases g with⟨c,d⟩|⟨c,d,e⟩|⟨c,d,e⟩
  ·exact(Eh a d).elim
  ·have:=dF j k;grind
  ·exact(Eh a d).elim
 ·grind
 ·grind
def L7{f s:Nat->Rat}{n:Nat}{e:Rat}(t:f 1=e)(u:f n=e)(up:∀i,1<=i->i<n->0<=s i->f i<=f (i+1))(v:∀i,1<=i->i<n->s i<=0->f (i+1)<=f i)
 (w:∀i k,1<=i->i<k->k<n->s i<=0->s k<=0)(i:Nat)(A:1<=i)(B:i<=n):e<=f i:=by
 have d:∀m,∀i,1<=i->i+m=n->(∀k,i<=k->k<n->s k<=0)->e<=f i:=by
  intro m;induction m with
  |zero=>intro i _ C _;rw[show i=n by omega,u];exact Qb
  |succ m o=>
   intro i g C j;have a:=o (i+1) vB vB (λk r=>j k vB);have b:=v i g vB (j i (Zn _) vB);exact Kn a b
 have p:∀m,m+1<=n->(∀k,1<=k->k<m+1->0<=s k)->e<=f (m+1):=by
  intro m;induction m with
  |zero=>intro _ _;rw[t];exact Qb
  |succ m o=>
   intro F j;have a:=o vB (λk g r=>j k g vB);have b:=up (m+1) vB vB (j (m+1) vB vB);exact Kn a b
 by_cases h:∃k,1<=k/\k<i/\s k<=0
 ·obtain⟨k,D,G,E⟩:=h
  exact d (n-i) i A vB (λl H q=>w k l D vB q E)
 ·have:=p (i-1) vB (λk g r=>by
   by_cases z:0<=s k
   ·exact z
   ·exact(h ⟨k,g,by omega,by grind⟩).elim)
  rwa [show i-1+1=i by omega] at this
def lT(u v:V)(m:Rat)(p:V):xr u (pl p (m*v.1,m*v.2))=xr u p+m*xr u v:=by unfold xr pl;grind
def keeps{D P:Nat->V}{E:Nat->Rat}{n:Nat}(hD:∀i k,i<k->k<n->bf (D i) (D k))(p:∀i,i<n->xr (D i) (P i)=E i)(h:∀i,i<n->∃m,0<=m/\P ((i+1)%n)=pl (P i) (m*(D i).1,m*(D i).2))
 (i j:Nat)(q:i<n)(g:j<n):E j<=xr (D j) (P i):=by
 have self:∀u:V,xr u u=0:=λu=>by unfold xr;grind
 have key:=L7 (f:=λi=>xr (D j) (P ((j+i)%n))) (s:=λi=>xr (D j) (D ((j+i)%n))) (n:=n) (e:=E j) ?_ ?_ ?_ ?_ ?_
 ·-- t place C i behind j
  by_cases z:j<i
  ·have:=key (i-j) vB vB
   rwa [show j+(i-j)=i by omega,Zh q] at this
  ·have:=key (n-j+i) vB vB
   rwa [show j+(n-j+i)=i+n by omega,Yo,Zh q] at this
 ·obtain⟨m,_,e⟩:=h j g
  show xr (D j) (P ((j+1)%n))=E j;rw[e,lT,p j g,self];grind
 ·show xr (D j) (P ((j+n)%n))=E j;rw[Yo,Zh g,p j g]
 ·intro i r l d;obtain⟨m,o,e⟩:=h ((j+i)%n) (Wi _ vB)
  show xr (D j) (P ((j+i)%n))<=xr (D j) (P ((j+(i+1))%n));rw[show(j+(i+1))%n=((j+i)%n+1)%n by rw[W4];rfl,e,lT];have:=Zp o d
  grind
 ·intro i r l d;obtain⟨m,o,e⟩:=h ((j+i)%n) (Wi _ vB)
  show xr (D j) (P ((j+(i+1))%n))<=xr (D j) (P ((j+i)%n));rw[show(j+(i+1))%n=((j+i)%n+1)%n by rw[W4];rfl,e,lT];have:=Zp o (show 0 <= - xr (D j) (D ((j+i)%n)) by grind)
  grind
 ·intro i k r v w d;show xr (D j) (D ((j+k)%n))<=0;have d:xr (D j) (D ((j+i)%n))<=0:=d;by_cases a:j+k<n
  ·rw[Zh a];rw[Zh vB] at d;exact o1 (hD _ _ vB vB) (hD (j+i) (j+k) vB a) d
  ·have A:(j+k)%n=j+k-n:=by rw[K9 vB,Zh vB]
   rw[A];by_cases b:j+i<n
   ·rw[Zh b] at d;exact o3 (hD _ _ vB b) (hD (j+k-n) j vB g) d
   ·have B:(j+i)%n=j+i-n:=by rw[K9 vB,Zh vB]
    rw[B] at d;exact o2 (hD (j+i-n) (j+k-n) vB vB) (hD (j+k-n) j vB g) d
def gg(a b c:V)(d e f:Rat):Rat:=xr b c*d+xr c a*e+xr a b*f
def len{a b c p q:V}{f d h:Rat}(j:0<xr a b)(l:0<xr b c)(r:xr a p=f)(i:xr b p=d)(s:xr b q=d)(t:xr c q=h)(z:gg a b c f d h<=0):
  ∃m,0<=m/\q=pl p (m*b.1,m*b.2):=by
 have n:0<xr a b*xr b c:=Zq j l;have u:xr a b*xr b c≠0:=by grind
 refine⟨- gg a b c f d h*(xr a b*xr b c)⁻¹,Zp (by grind) (Z5 (K0.mpr n)),?_⟩
 have o:=Qp _ u;generalize B:(xr a b*xr b c)⁻¹=I at o |-;have v:(xr a b*xr b c)*(q.1-p.1) = - gg a b c f d h*b.1:=by
  unfold gg;rw[<-r,<-i,<-t];have e:xr b q=xr b p:=s.trans i.symm;unfold xr at *;grind
 have w:(xr a b*xr b c)*(q.2-p.2) = - gg a b c f d h*b.2:=by
  unfold gg;rw[<-r,<-i,<-t];have e:xr b q=xr b p:=s.trans i.symm;unfold xr at *;grind
 generalize gg a b c f d h=g at *;generalize xr a b*xr b c=A at *;apply Yt
 ·show q.1=p.1 + -g*I*b.1;have:I*(A*(q.1-p.1))=I*(-g*b.1):=by rw[v]
  grind
 ·show q.2=p.2 + -g*I*b.2;have:I*(A*(q.2-p.2))=I*(-g*b.2):=by rw[w]
  grind
def nx(n i:Nat):Nat:=if i+1=n then 0 else i+1
def pv(n i:Nat):Nat:=if i=0 then n-1 else i-1
def er(k i:Nat):Nat:=if i<k then i else i+1
def bM{n i:Nat}(h:i<n):nx n i<n:=by unfold nx;split<;>omega
def bL{n i:Nat}(h:i<n):pv n i<n:=by unfold pv;split<;>omega
def bQ{n k i:Nat}(d:k<n)(h:i<n-1):er k i<n:=by unfold er;split<;>omega
def KI{k i:Nat}:er k i≠k:=by unfold er;split<;>omega
def pC{k i j:Nat}(h:i<j):er k i<er k j:=by unfold er;split<;>split<;>omega
def lU{n k i:Nat}(d:3<=n)(e:k<n)(h:i<n-1):er k (nx (n-1) i)=if nx n (er k i)=k then nx n k else nx n (er k i):=by
 unfold nx er;repeat' split
 all_goals omega
def Fj{n k i:Nat}(d:3<=n)(e:k<n)(h:i<n-1):er k (pv (n-1) i)=if pv n (er k i)=k then pv n k else pv n (er k i):=by
 unfold pv er;repeat' split
 all_goals omega
def jC{n i:Nat}(h:i<n):nx n (pv n i)=i:=by
 unfold nx pv;repeat' split
 all_goals omega
def eh{n i:Nat}(h:i<n):pv n (nx n i)=i:=by
 unfold nx pv;repeat' split
 all_goals omega
def pD{n i:Nat}(d:3<=n)(h:i<n):pv n i≠nx n i:=by
 unfold nx pv;repeat' split
 all_goals omega
def jD{n i:Nat}(h:i<n):nx n i=(i+1)%n:=by
 unfold nx;split
 ·next e=>rw[e,K8]
 ·rw[Zh vB]
def ee(c l:Nat->Rat)(t:Rat)(i:Nat):Rat:=c i-t*l i
def gi(D:Nat->V)(c l:Nat->Rat)(n:Nat)(t:Rat)(i:Nat):Rat:=gg (D (pv n i)) (D i) (D (nx n i)) (ee c l t (pv n i)) (ee c l t i) (ee c l t (nx n i))
structure Ok(D:Nat->V)(c l:Nat->Rat)(n:Nat)(t:Rat):Prop where
 three:3<=n
 srt:∀i k,i<k->k<n->bf (D i) (D k)
 bend:∀i,i<n->0<xr (D i) (D (nx n i))
 lens:∀i,i<n->gi D c l n t i<=0
def wA{a b c d:V}{f e g ed:Rat}(h:gg b c d e g ed=0):xr b c*gg a b d f e ed=xr b d*gg a b c f e g:=by
 unfold gg xr at *;grind
def wB{b c d f:V}{e g ed h:Rat}(i:gg b c d e g ed=0):xr c d*gg b d f e ed h=xr b d*gg c d f g ed h:=by
 unfold gg xr at *;grind
def pE{A B g d:Rat}(f:0<A)(i:0<B)(e:A*d=B*g)(h:g<=0):d<=0:=by
 have a:=Zp (Z5 i) (show 0 <= -g by grind);have:0 <= -d:=cC f (by grind)
 grind
def Ok.drop{D:Nat->V}{c l:Nat->Rat}{n k:Nat}{t o:Rat}(O:Ok D c l n t)(d:k<n)(r:∀i,i<n->gi D c l n o i<=0)(q:gi D c l n o k=0)(A:xr (D (nx n k)) (D (pv n k))<0):
  Ok (λi=>D (er k i)) (λi=>c (er k i)) (λi=>l (er k i)) (n-1) o/\4<=n:=by
 have h:0<xr (D (pv n k)) (D (nx n k)):=by rw[dF];grind
 have p:4<=n:=by
  rcases Yk 3 n with z|z
  ·exact z
  ·have w:n=3:=by have:=O.three;omega
   have:=O.bend (nx n k) (bM d)
   have e:nx n (nx n k)=pv n k:=by
    subst w;unfold nx pv;repeat' split
    all_goals omega
   rw[e] at this;grind
 refine⟨⟨by omega,λi j s f=>O.srt _ _ (pC s) (bQ d f),λi m=>?_,λi m=>?_⟩,p⟩
 ·show 0<xr (D (er k i)) (D (er k (nx (n-1) i)));rw[lU O.three d m];split
  ·next z=>
   have:er k i=pv n k:=by
    have:=eh (bQ d m)
    rw[z] at this;exact this.symm
   rw[this];exact h
  ·exact O.bend _ (bQ d m)
 ·show gg (D (er k (pv (n-1) i))) (D (er k i)) (D (er k (nx (n-1) i))) (ee c l o (er k (pv (n-1) i))) (ee c l o (er k i)) (ee c l o (er k (nx (n-1) i)))<=0;rw[lU O.three d m,Fj O.three d m];have f:=bQ d m;have B:=KI (k:=k) (i:=i);generalize er k i=j at *;split
  ·next z=>
   have u:j=nx n k:=by
    have:=jC f
    rw[z] at this;exact this.symm
   subst u;rw[if_neg (λy=>by
    have:=pD O.three f
    rw[z,y] at this;exact this rfl)]
   have g:=r (nx n k) f;unfold gi at g q;rw[z] at g;exact pE (O.bend k d) h (wB q) g
  ·next z=>
   split
   ·next y=>
    have u:j=pv n k:=by
     have:=eh f
     rw[y] at this;exact this.symm
    subst u;have g:=r (pv n k) f;unfold gi at g q;rw[y] at g;have v:=O.bend (pv n k) f;rw[y] at v;exact pE v h (wA q) g
   ·exact r j f
def EW{D:Nat->V}{c l:Nat->Rat}{n k:Nat}{s:Rat}{x:V}(j:xr (D (nx n k)) (D (pv n k))<0)(d:0<xr (D (pv n k)) (D k))(f:0<xr (D k) (D (nx n k)))(g:0<=gi D c l n s k)
 (o:ee c l s (pv n k)<=xr (D (pv n k)) x)(p:ee c l s (nx n k)<=xr (D (nx n k)) x):ee c l s k<=xr (D k) x:=by
 unfold gi gg at g;generalize D (pv n k)=a at *;generalize D (nx n k)=b at *;generalize D k=m at *;generalize ee c l s (pv n k)=h at *;generalize ee c l s (nx n k)=i at *;generalize ee c l s k=em at *;have q:=Zp (Z5 f) (show 0<=xr a x-h by grind);have r:=Zp (Z5 d) (show 0<=xr b x-i by grind);have e:xr m b*xr a x+xr a m*xr b x = - xr b a*xr m x:=by unfold xr;grind
 have:0<=xr m x-em:=cC (b:=- xr b a) (by grind) (by grind)
 grind
def mt(a b:V)(d e:Rat):V:=((d*b.1-e*a.1)*(xr a b)⁻¹,(d*b.2-e*a.2)*(xr a b)⁻¹)
def ED{a b:V}{d e:Rat}(h:0<xr a b):xr a (mt a b d e)=d:=by
 have i:=Qp _ (show xr a b≠0 by grind);unfold mt;generalize f:(xr a b)⁻¹=I at *;have:xr a ((d*b.1-e*a.1)*I,(d*b.2-e*a.2)*I)=d*(xr a b*I):=by unfold xr;grind
 rw[this,i];grind
def Ei{a b:V}{e d:Rat}(h:0<xr a b):xr b (mt a b e d)=d:=by
 have i:=Qp _ (show xr a b≠0 by grind);unfold mt;generalize f:(xr a b)⁻¹=I at *;have:xr b ((e*b.1-d*a.1)*I,(e*b.2-d*a.2)*I)=d*(xr a b*I):=by unfold xr;grind
 rw[this,i];grind
section
variable{D:Nat->V}{c l:Nat->Rat}{n:Nat}{t:Rat}
def mi(D:Nat->V)(c l:Nat->Rat)(n:Nat)(t:Rat)(i:Nat):V:=mt (D (pv n i)) (D i) (ee c l t (pv n i)) (ee c l t i)
def Ok.bendp(O:Ok D c l n t){i:Nat}(d:i<n):0<xr (D (pv n i)) (D i):=by
 have:=O.bend (pv n i) (bL d)
 rwa [jC d] at this
theorem Ok.keeps(O:Ok D c l n t)(i j:Nat)(d:i<n)(e:j<n):ee c l t j<=xr (D j) (mi D c l n t i):=by
 refine Fi.keeps (D:=D) (P:=mi D c l n t) (E:=ee c l t) O.srt (λi d=>Ei (O.bendp d)) (λi d=>?_) i j d e;rw[<-jD d];refine Fi.len (O.bendp d) (O.bend i d) (ED (O.bendp d)) (Ei (O.bendp d)) ?_ ?_ (O.lens i d)
 ·unfold mi;rw[eh d];exact ED (O.bend i d)
 ·unfold mi;rw[eh d];exact Ei (O.bend i d)
def tp(D:Nat->V)(c:Nat->Rat)(n i:Nat):Rat:=- gg (D (pv n i)) (D i) (D (nx n i)) (c (pv n i)) (c i) (c (nx n i))
def gQ{i:Nat}:gi D c l n t i=t*tp D l n i-tp D c n i:=by unfold gi tp gg ee;grind
def Span(D:Nat->V)(n:Nat):Prop:=∀u:V,(∀i,i<n->0<=xr (D i) u)->u=(0,0)
def Span.drop{k:Nat}(S:Span D n)(O:Ok D c l n t)(f:k<n)(e:xr (D (nx n k)) (D (pv n k))<0):Span (λi=>D (er k i)) (n-1):=λu h=>by
 have all:∀j,j<n->j≠k->0<=xr (D j) u:=λj g m=>by
  rcases Yk j k with z|z
  ·have:=h j vB
   simp only[er,if_pos z] at this;exact this
  ·have:=h (j-1) vB
   simp only[er,if_neg (show ¬j-1<k by omega),show j-1+1=j by omega] at this;exact this
 refine S u λi d=>?_;by_cases z:i=k
 ·subst z;have a:=all (pv n i) (bL d) (by unfold pv;have:=O.three;split<;>omega);have b:=all (nx n i) (bM d) (by unfold nx;have:=O.three;split<;>omega);have:=EW (c:=λ_=>0) (l:=λ_=>0) (s:=0) (x:=u) e (O.bendp d) (O.bend i d) (by unfold gi gg ee;grind) (by unfold ee;grind) (by unfold ee;grind)
  unfold ee at this;grind
 ·exact all i d z
def Ok.some(O:Ok D c l n t)(S:Span D n){v e:V}(f:v≠e)(g:∀i,i<n->l i<=xr (D i) v)(h:∀i,i<n->l i<=xr (D i) e):∃i,i<n/\0<tp D l n i:=by
 apply Y0
 intro m;have o:Ok D (λi=>- l i) (λ_=>0) n 0:=⟨O.three,O.srt,O.bend,λi d=>by
  have:¬0<tp D l n i:=λz=>m ⟨i,d,z⟩
  unfold tp at this;unfold gi gg ee at *;grind⟩
 have q:0<n:=by have:=O.three;omega
 have k:=λj r=>o.keeps 0 j q r
 generalize mi D (λi=>- l i) (λ_=>0) n 0 0=p at k;have key:∀w:V,(∀i,i<n->l i<=xr (D i) w)->w=ng p:=λw s=>by
  have:=S (pl w p) (λi d=>by
   have a:=s i d;have b:=k i d;unfold ee at b;rw[Ij];grind)
  have u:w.1+p.1=0:=congrArg Prod.fst this;have A:w.2+p.2=0:=congrArg Prod.snd this;apply Yt
  ·show w.1 = - p.1;grind
  ·show w.2 = - p.2;grind
 exact f ((key v g).trans (key e h).symm)
def Ok.until(O:Ok D c l n t){k:Nat}{d:Rat}(h:k<n)(j:0<tp D l n k)(p:d*tp D l n k=tp D c n k)(m:∀i,i<n->0<tp D l n i->d*tp D l n i<=tp D c n i):
  t<=d/\(∀i,i<n->gi D c l n d i<=0)/\gi D c l n d k=0:=by
 have g:=O.lens k h;rw[gQ] at g;have o:t<=d:=by
  by_cases z:t<=d
  ·exact z
  ·have:=Zq (show 0<t-d by grind) j
   grind
 refine⟨o,λi f=>?_,by rw[gQ];grind⟩
 have e:=O.lens i f;rw[gQ] at e |-;by_cases z:0<tp D l n i
 ·have:=m i f z;grind
 ·have:=Zp (show 0<=d-t by grind) (show 0 <= - tp D l n i by grind)
  grind
def Ok.back(O:Ok D c l n t){k:Nat}{e s:Rat}{x:V}(m:k<n)(f:0<tp D l n k)(o:e*tp D l n k=tp D c n k)(p:e<=s)(g:xr (D (nx n k)) (D (pv n k))<0)
 (h:∀i,i<n-1->ee c l s (er k i)<=xr (D (er k i)) x):∀i,i<n->ee c l s i<=xr (D i) x:=λi d=>by
 have all:∀j,j<n->j≠k->ee c l s j<=xr (D j) x:=λj q r=>by
  rcases Yk j k with z|z
  ·have:=h j vB
   simp only[er,if_pos z] at this;exact this
  ·have:=h (j-1) vB
   simp only[er,if_neg (show ¬j-1<k by omega),show j-1+1=j by omega] at this;exact this
 by_cases z:i=k
 ·subst z;have:=Zp (show 0<=s-e by grind) (Z5 f)
  exact EW g (O.bendp d) (O.bend i d) (by rw[gQ];grind) (all _ (bL d) (by unfold pv;have:=O.three;split<;>omega)) (all _ (bM d) (by unfold nx;have:=O.three;split<;>omega))
 ·exact all i d z
end
def sm(m:Rat)(u:V):V:=(m*u.1,m*u.2)
def fv{m:Rat}{u:V}(h:0<m)(k:up u):up (sm m u):=by
 rcases k with k|⟨k,d⟩
 ·exact .inl (Zq h k)
 ·exact .inr ⟨by show m*u.1=0;rw[k];grind,Zq h d⟩
def lV{m:Rat}{u:V}:ng (sm m u)=sm m (ng u):=by unfold ng sm;exact Yt (by dsimp only;grind) (by dsimp only;grind)
def lW{m k:Rat}{u v:V}:xr (sm m u) (sm k v)=m*k*xr u v:=by unfold xr sm;grind
def dh{m:Rat}{u v:V}:xr (sm m u) v=m*xr u v:=by unfold xr sm;grind
def La{m k:Rat}{u v:V}(d:0<m)(e:0<k)(h:bf u v):bf (sm m u) (sm k v):=by
 rcases h with⟨a,b⟩|⟨a,b,c⟩|⟨a,b,c⟩
 ·exact .inl ⟨fv d a,by rw[lV];exact fv e b⟩
 ·exact .inr (.inl ⟨fv d a,fv e b,by rw[lW];exact Zq (Zq d e) c⟩)
 ·exact .inr (.inr ⟨by rw[lV];exact fv d a,by rw[lV];exact fv e b,by rw[lW];exact Zq (Zq d e) c⟩)
def Off(D:Nat->V)(c:Nat->Rat)(n:Nat):Prop:=∀i,i<n->∃x,(∀j,j<n->c j<=xr (D j) x)/\c i<xr (D i) x
section
variable{D P:Nat->V}{c l:Nat->Rat}{n:Nat}
structure Sds(D P:Nat->V)(c:Nat->Rat)(n:Nat):Prop where
 poly:Poly P n
 way:∀i,i<n->∃m,0<m/\D i=sm m (ed P i)
 on:∀i,i<n->c i=xr (D i) (P i)
def Mb(h:Poly P n):ed P n=ed P 0:=by
 unfold ed;have a:=h.per 0;have b:=h.per 1;rw[show 0+n=n by omega] at a;rw[show 1+n=n+1 by omega] at b;rw[a,b]
def HZ(h:Poly P n){i:Nat}(d:i<n):P (nx n i)=P (i+1)/\ed P (nx n i)=ed P (i+1):=by
 unfold nx;split
 ·next e=>
  have a:=h.per 0;rw[show 0+n=n by omega] at a;rw[e,a,Mb h];exact⟨rfl,rfl⟩
 ·exact⟨rfl,rfl⟩
def Sds.bend(S:Sds D P c n){i:Nat}(d:i<n):0<xr (D i) (D (nx n i)):=by
 obtain⟨m,g,e⟩:=S.way i d
 obtain⟨k,h,f⟩:=S.way (nx n i) (bM d)
 rw[e,f,(HZ S.poly d).2,lW];exact Zq (Zq g h) (S.poly.turn i)
def Sds.on2(S:Sds D P c n){i:Nat}(d:i<n):c i=xr (D i) (P (nx n i)):=by
 obtain⟨m,f,e⟩:=S.way i d
 rw[S.on i d,(HZ S.poly d).1,e];unfold sm ed mn xr;grind
def Hm{a b c p:V}{m:Rat}:gg a b c (xr a p) (xr b p) (xr c (pl p (m*b.1,m*b.2))) = - m*xr a b*xr b c:=by unfold gg xr pl;grind
def Sds.ok(S:Sds D P c n):Ok D c l n 0:=by
 have g:=S.poly.three;refine⟨g,λi k h q=>?_,λi d=>S.bend d,λi d=>?_⟩
 ·obtain⟨m,j,e⟩:=S.way i vB
  obtain⟨w,o,f⟩:=S.way k q
  rw[e,f];exact La j o (S.poly.srt h q)
 ·obtain⟨m,j,e⟩:=S.way i d
  have r:=S.bend (bL d);rw[jC d] at r;have s:=S.bend d;have t:c (pv n i)=xr (D (pv n i)) (P i):=by
   have:=S.on2 (bL d)
   rwa [jC d] at this
  have mi:=K0.mpr j;have u:P (nx n i)=pl (P i) (m⁻¹*(D i).1,m⁻¹*(D i).2):=by
   have z:=Qp m (by grind);rw[(HZ S.poly d).1,e];generalize m⁻¹=I at *;unfold pl sm ed mn;exact Yt (by dsimp only;grind) (by dsimp only;grind)
  have v:gi D c l n 0 i = - m⁻¹*xr (D (pv n i)) (D i)*xr (D i) (D (nx n i)):=by
   unfold gi ee;rw[t,S.on i d,S.on (nx n i) (bM d),u,<-Hm (p:=P i)];unfold gg;grind
  rw[v];have:=Zp (Zp (Z5 mi) (Z5 r)) (Z5 s)
  grind
def Sds.span(S:Sds D P c n):Span D n:=λu h=>by
 have l:=S.poly.three;have o:∀i,i<n->0<=xr (ed P i) u:=λi d=>by
  obtain⟨m,q,e⟩:=S.way i d
  have:=h i d
  rw[e,dh,Vx] at this;exact cC q this
 have f:∀i,xr (ed P i) u=xr (P (i+1)) u-xr (P i) u:=λi=>by unfold ed mn xr;grind
 have g:∀k i,i+k<=n->xr (P i) u<=xr (P (i+k)) u:=by
  intro k;induction k with
  |zero=>intro i _;exact Qb
  |succ k r=>
   intro i d;have a:=r i vB;have b:=o (i+k) vB;rw[f] at b;rw[show i+(k+1)=i+k+1 by omega];grind
 have j:∀i,i<n->xr (ed P i) u=0:=λi d=>by
  have a:=g i 0 vB;have b:=g (n-(i+1)) (i+1) vB;have p:=S.poly.per 0;rw[show i+1+(n-(i+1))=0+n by omega,p] at b;rw[show 0+i=i by omega] at a;have s:=o i d;rw[f] at s |-;grind
 have t:=S.poly.turn 0;have a:=j 0 vB;have b:=j 1 vB;have v:0<xr (ed P 0) (ed P 1):=t;generalize ed P 0=x at *;generalize ed P 1=y at *;have w:xr x y*u.1=xr x u*y.1-xr y u*x.1:=by unfold xr;grind
 have A:xr x y*u.2=xr x u*y.2-xr y u*x.2:=by unfold xr;grind
 rw[a,b] at w A;have z:xr x y≠0:=by grind
 apply Yt
 ·exact(Ws.mp (show xr x y*u.1=0 by grind)).resolve_left z
 ·exact(Ws.mp (show xr x y*u.2=0 by grind)).resolve_left z
def Sds.corner(S:Sds D P c n)(k:Nat){i:Nat}(d:i<n):c i<=xr (D i) (P k):=by
 obtain⟨m,f,e⟩:=S.way i d
 have:=Zp (Z5 f) (S.poly.conv i k)
 rw[S.on i d,e,dh,dh];have g:xr (mn (P (i+1)) (P i)) (mn (P k) (P i))=xr (ed P i) (P k)-xr (ed P i) (P i):=by unfold ed mn xr;grind
 rw[g] at this;grind
def Sds.off(S:Sds D P c n):Off D c n:=λi d=>by
 refine⟨P (i+2),λj f=>S.corner _ f,?_⟩
 obtain⟨m,g,e⟩:=S.way i d
 have:=Zq g (S.poly.turn i)
 rw[S.on i d,e,dh,dh];have h:xr (mn (P (i+1)) (P i)) (mn (P (i+2)) (P (i+1)))=xr (ed P i) (P (i+2))-xr (ed P i) (P i):=by unfold ed mn xr;grind
 rw[h] at this;grind
def Off.drop{k:Nat}(h:Off D c n)(d:k<n):Off (λi=>D (er k i)) (λi=>c (er k i)) (n-1):=λi e=>by
 obtain⟨x,f,g⟩:=h (er k i) (bQ d e)
 exact⟨x,λj l=>f _ (bQ d l),g⟩
def Off.pos{t:Rat}(h:Off D c n)(O:Ok D c l n t){k:Nat}(f:k<n)(i:0<=xr (D (nx n k)) (D (pv n k))):0<tp D c n k:=by
 obtain⟨x,g,j⟩:=h (pv n k) (bL f)
 have a:=Zq (O.bend k f) (show 0<xr (D (pv n k)) x-c (pv n k) by grind);have b:=Zp i (show 0<=xr (D k) x-c k by have:=g k f;grind);have d:=Zp (Z5 (O.bendp f)) (show 0<=xr (D (nx n k)) x-c (nx n k) by have:=g _ (bM f);grind);unfold tp gg;have e:xr (D k) (D (nx n k))*xr (D (pv n k)) x+xr (D (nx n k)) (D (pv n k))*xr (D k) x+xr (D (pv n k)) (D k)*xr (D (nx n k)) x=0:=by unfold xr;grind
 grind
end
end Fi
open Sf
def lX{l:List D}{a:Nat}(h:a<=l.length):cutD l none (some (a:Int))=l.take a:=by
 unfold cutD;rw[HT.sIx_none,HT.sIx_nat,Vj,Vy,Ju h]
def pF{l:List D}{a:Nat}(h:a<=l.length):cutD l (some (a:Int)) none=l.drop a:=by
 unfold cutD;rw[HT.sIx_none,HT.sIx_nat,Ju h,Ke (by rw[Yr];exact Zn _)]
section
variable{Γ:Nat->∅}
def rat_of(x:Rat):Rat.divInt x.num (x.den:Int)=x:=by
 rw[Rat.divInt_ofNat];exact Vn x
def add_r(x y:Rat):Rat.divInt (x.num*(y.den:Int)+y.num*(x.den:Int)) ((x.den:Int)*(y.den:Int))=x+y:=by
 have d:(x.den:Int)≠0:=by have:=den_pos x;omega
 have f:(y.den:Int)≠0:=by have:=den_pos y;omega
 have e:=Ko x.num y.num d f;rw[rat_of,rat_of] at e;exact e.symm
def mul_r(x y:Rat):Rat.divInt (x.num*y.num) ((x.den:Int)*(y.den:Int))=x*y:=by
 have e:=Qs x.num y.num (d₁:=(x.den:Int)) (d₂:=(y.den:Int));rw[rat_of,rat_of] at e;exact e.symm
end
open Sf
def Hr(x y:Rat):CI .eq (fr x) (fr y)=some (decide (x=y)):=by
 have d:∀z:Rat,dOkL 49 [D.int z.num,D.int (z.den:Int)]=true:=λ_=>rfl
 show(if (dOkL 49 [.int x.num,.int (x.den:Int)] && dOkL 49 [.int y.num,.int (y.den:Int)])=true then some (eqL [.int x.num,.int (x.den:Int)] [.int y.num,.int (y.den:Int)]) else none)=_;rw[d,d,Bool.and_self,if_pos rfl];congr 1
 simp only[eqL,eqD,Bool.and_true];by_cases h:x=y
 ·subst h;simp
 ·have:¬(x.num=y.num/\(x.den:Int)=(y.den:Int)):=λ⟨f,g⟩=>h (Rat.ext f vB)
  rw[decide_eq_false h];exact Ji.mpr λe=>this (by simpa using e)
section
variable{Γ:Nat->∅}
end
open Sf
section
variable{Γ:Nat->∅}
structure Sy(a b:Nat)(x:Rat):Prop where
 t:x.num.natAbs<2^a
 b:x.den<2^b
def Sy.sz{a b n:Nat}{x:Rat}(h:Sy a b x)(d:a<=n)(e:b<=n):Sz n x:=⟨Zg h.t (Bm d),Zg h.b (Bm e)⟩
def Sy.mono{a b c d:Nat}{x:Rat}(h:Sy a b x)(e:a<=c)(f:b<=d):Sy c d x:=⟨Zg h.t (Bm e),Zg h.b (Bm f)⟩
def lY{x:Rat}{p q:Int}{m n:Nat}(d:q≠0)(e:x=Rat.divInt p q)(f:p.natAbs<2^m)(g:q.natAbs<2^n):Sy m n x:=by
 obtain⟨a,b⟩:=(cM x).cross_le d ((ja d).mp e)
 exact⟨Wg a f,by have:=b;omega⟩
def di{t b:Int}{m n:Nat}(h:b≠0)(d:t.natAbs<2^m)(e:b.natAbs<2^n):Sy m n (Rat.divInt t b):=lY h rfl d e
def Sy.mul{a b c d:Nat}{x y:Rat}(e:Sy a b x)(f:Sy c d y):Sy (a+c) (b+d) (x*y):=by
 have p:(x.den:Int)≠0:=by have:=x.den_nz;omega
 have q:(y.den:Int)≠0:=by have:=y.den_nz;omega
 refine lY (Ys p q) (kZ x y) ?_ ?_
 ·rw[Z9];exact bu e.t f.t
 ·rw[Z9];exact bu e.b f.b
def Sy.add{a b c d k:Nat}{x y:Rat}(f:Sy a b x)(g:Sy c d y)(h:a+d<=k)(i:c+b<=k):Sy (k+1) (b+d) (x+y):=by
 have p:(x.den:Int)≠0:=by have:=x.den_nz;omega
 have q:(y.den:Int)≠0:=by have:=y.den_nz;omega
 have e:x+y=Rat.divInt (x.num*y.den+y.num*x.den) (x.den*y.den):=by
  conv=>lhs;rw[<-Yp x,<-Yp y]
  exact Ko _ _ p q
 refine lY (Ys p q) e ?_ ?_
 ·have j:(x.num*y.den).natAbs<2^k:=by rw[Z9];exact Zg (bu f.t g.b) (Bm h)
  have l:(y.num*x.den).natAbs<2^k:=by rw[Z9];exact Zg (bu g.t f.b) (Bm i)
  exact Wg (G7 _ _) (by rw[Vz,Nat.mul_two];exact Nat.add_lt_add j l)
 ·rw[Z9];exact bu f.b g.b
def Sy.neg{a b:Nat}{x:Rat}(d:Sy a b x):Sy a b (-x):=⟨by show(-x.num).natAbs<_;rw[Jg];exact d.t,d.b⟩
end
open Sf
section
variable{Γ:Nat->∅}
def CJ(s t:H3):Int:=s.1*t.2.1-s.2.1*t.1
def bR:∅:=run (tab []) je 2
def ok_cross:∀d w,d.length=2->bR d=some w->run Γ je 2 d=some w:=λd w _ h=>bq [] (λp e=>by cases e) vA d w h
def jE{s t:H3}(d:HB 3000 s)(e:HB 3000 t):bR [hD s,hD t]=some (.val (.int (CJ s t))):=by
 have f:Bk s.1 t.2.1=true:=Bf d.a e.b vA vA;have g:Bk s.2.1 t.1=true:=Bf d.b e.a vA vA;unfold bR;generalize tab []=Γ;unfold CJ hD je;clear d e;walk_at "evh"
def jF{l:List D}{k:Nat}{x:D}(h:l[k]? = some x):L2.atI l (k:Int)=some x:=by
 have d:k<l.length:=by
  rcases Yk k l.length with q|q
  ·exact q
  ·rw[Y6 q] at h;cases h
 rw[o8 (Yx k) vB,Zz,h]
end
open Sf Mg
section
variable{Γ:Nat->∅}
def wC{l:List (Rat×Rat)}{i:Nat}(d:i<l.length):(cB l).drop i=cu (CD l i) (CD l (i+1))::(cB l).drop (i+1):=by
 have f:i<(cB l).length:=by unfold cB;rw[Zc,gM];exact d
 rw[Jd f];congr 1
 have e:i<(bX l).length:=by rw[gM];exact d
 have g:=pd (l:=l) (k:=i) (Zj e);have a:=By (l:=l) vB i;have b:=By (l:=l) vB (i+1);rw[Zh d] at a;rw[a] at g;rw[b] at g;have h:=Zs g.1;have j:=Zs g.2;show(List.map (λp=>cu p.1 p.2) (bX l))[i]'(by rw[Zc];exact e)=_;rw[Uv,<-h,<-j]
def gR{l:List (Rat×Rat)}(d:l.Nodup)(f:2<=l.length)(i:Nat):CD l i≠CD l (i+1):=λe=>by
 have:=jB d vB e.symm
 have a:=Wi i (show 0<l.length by omega);rw[<-W4] at this;rcases Yk (i%l.length+1) l.length with k|k
 ·rw[Zh k] at this;omega
 ·rw[show i%l.length+1=l.length by omega,K8] at this;omega
end
open Sf Mg
structure Ov(d:Int)(B:Nat)(q:Rat×Rat):Prop where
 ex:∃x y:Int,q.1=Rat.divInt x d/\q.2=Rat.divInt y d/\x.natAbs<2^B/\y.natAbs<2^B
def pG{a b:Int}{m n k:Nat}(h:a.natAbs<2^m)(g:b.natAbs<2^n)(d:m+n<=k):(a*b).natAbs<2^k:=by
 rw[Z9];exact Zg (bu h g) (Bm d)
def pH(x:Rat):x=Rat.divInt x.num (x.den:Int):=(Yp x).symm
def SyL(a b:Nat)(l:List (Rat×Rat)):Prop:=∀q∈l,Sy a b q.1/\Sy a b q.2
theorem SyL.sz{a b n:Nat}{l:List (Rat×Rat)}(h:SyL a b l)(d:a<=n)(e:b<=n):DY n l:=λq f=>⟨(h q f).1.sz d e,(h q f).2.sz d e⟩
open Sf Mg
section
variable{Γ:Nat->∅}
end
open Sf Mg
open Sf Mg
section
variable{Γ:Nat->∅}
abbrev DC:Int:=1000000000000000000000000000000000000000000000000000000000007
def gS:∅:=run (tab []) jk 6
def ok_law_numbers:∀d w,d.length=2->gS d=some w->run Γ jk 6 d=some w:=λd w _ h=>bq [] (λp e=>by cases e) vA d w h
abbrev dG:Ss:=#v[.asg 4 (.int 0),.iff (.cmp .gt (.bi .len #v[.var 0]) (.int 0)) #v[.asg 4 (.bin .mod (.ix (.var 0) (.bin .mod (.var 2) (.bi .min #v[.bi .len #v[.var 0],.int 63]))) (.bin .add (.bin .pow (.int 10) (.int 60)) (.int 7)))] .nil,.asg 5 (.bin .mod (.var 2) (.var 1)),.seti 3 (.var 5) (.bin .mod (.bin .add (.bin .add (.bin .mul (.ix (.var 3) (.var 5)) (.int 48271)) (.var 4)) (.bin .mul (.var 2) (.var 2))) (.bin .add (.bin .pow (.int 10) (.int 60)) (.int 7)))]
def wD{e f:List D}{L m k c x:Int}{j:Nat}{l n:Option B}(q:(e.length:Int)=L)(o:(0<L)=True)(p:(63<L)=False)(d:L≠0)(g:m≠0)(h:0<m)
 (r:L2.atI e (k%L)=some (.int c))(s:L2.atI f (k%m)=some (.int x))(t:L2.ixN f.length (k%m)=some j)(o1:Bk x 48271=true)(o2:Bk k k=true):
  exs Γ dG [~~~.lst e,~~~.int m,~~~.int k,some (.ow f),l,n]=some (.nx [~~~.lst e,~~~.int m,~~~.int k,some (.ow (f.set j (.int ((x*48271+c%DC+k*k)%DC)))),~~~.int (c%DC),~~~.int (k%m)]):=by
 have i:0<L:=of_eq_true o;have u:=bP (a:=k) i;have v:=bP (a:=k) h;have w:(L=0)=False:=eq_false d;have z:(m=0)=False:=eq_false g;have A:∀y:Int,y.fmod 1000000000000000000000000000000000000000000000000000000000007=y%1000000000000000000000000000000000000000000000000000000000007:=λy=>bP vA
 have C:((1000000000000000000000000000000000000000000000000000000000007:Int)=0)=False:=eq_false vA;unfold dG DC;clear d g h i;walk_at "evh"
def wF{d:List D}{m k x:Int}{j:Nat}{g h:Option B}(e:m≠0)(f:0<m)(i:L2.atI d (k%m)=some (.int x))(l:L2.ixN d.length (k%m)=some j)(o1:Bk x 48271=true)(o2:Bk k k=true):
  exs Γ dG [~~~.lst [],~~~.int m,~~~.int k,some (.ow d),g,h]=some (.nx [~~~.lst [],~~~.int m,~~~.int k,some (.ow (d.set j (.int ((x*48271+0+k*k)%DC)))),~~~.int 0,~~~.int (k%m)]):=by
 have n:=bP (a:=k) f;have o:(m=0)=False:=eq_false e;have p:∀y:Int,y.fmod 1000000000000000000000000000000000000000000000000000000000007=y%1000000000000000000000000000000000000000000000000000000000007:=λy=>bP vA
 have q:((1000000000000000000000000000000000000000000000000000000000007:Int)=0)=False:=eq_false vA;have r:((([]:List D).length:Nat):Int)=0:=rfl;unfold dG DC;clear e f;walk_at "evh"
abbrev jG:E:=(.comp (.int 0) (.name 1) (.range1 (.var 1)) 2 [] .non)
def wG{d Z O:List D}{m N L:Int}{e f g:Option B}(i:(d.length:Int)=L)(h:(63<L)=False)(j:(if m<L then L else m)=N)(l:(-4611686018427387904<=N/\N<4611686018427387904)=True)
 (n:ev Γ jG [some (.lst d),some (.int m),none,none,none,none]=some (.new Z))(o:lfL Z=true)
 (p:forN (Bo (.name 2)) (exs Γ dG) (Bv 0 N.toNat) [~~~.lst d,~~~.int m,none,some (.ow Z),none,none]=some (.nx [~~~.lst d,~~~.int m,e,some (.ow O),f,g])):
  run Γ jk 6 [.lst d,.int m]=some (.new O):=by
 show run Γ #v[.asg 3 jG,.frr (.name 2) (.range1 (.bi .max #v[.var 1,.bi .min #v[.bi .len #v[.var 0],.int 63]])) dG,.retV 3] 6 _=_;generalize jG=q at *;generalize dG=r at *;walk_at "evh"
def wH(m:Nat):(List.replicate m (0:Int)).map D.int=(List.range m).map λ_=>D.int 0:=by
 rw[List.map_replicate,List.map_const',Z3]
def pI(m:Nat):Bv 0 ((m:Int).toNat)=(List.range m).map λ(k:Nat)=>D.int (0+(k:Int)):=by
 rw[Zz];rfl
def wI{d:D}{m:Nat}(h:m<=1000):evW Γ (.range1 (.var 1)) [some d,some (.int (m:Int)),none,none,none,none]=some ((List.range m).map λ(k:Nat)=>D.int (0+(k:Int))):=by
 have e:evd Γ (.var 1) [some d,some (.int (m:Int)),none,none,none,none]=some (.int (m:Int)):=by walk_at "evh"
 rw[iZ,e,Zv,iX,Zv,if_pos ⟨by omega,by omega⟩,pI]
def wJ{e:D}{m:Nat}(h:m<=1000):ev Γ jG [some e,some (.int (m:Int)),none,none,none,none]=some (.new ((List.replicate m (0:Int)).map D.int)):=by
 rw[wH];have f:(1000:Nat)<=PySem.sizeLine:=by decide
 refine d7 (l:=List.range m) (g:=λ(k:Nat)=>D.int (0+(k:Int))) (h:=λ_=>D.int 0) (wI h) (by rw[Z3];omega) rfl (λx _=>?_);clear h f;generalize D.int (0+(x:Int))=d;generalize D.int (m:Int)=i;walk_at "evh"
theorem ei:∀l:List Int,lfL (l.map D.int)=true
 |[]=>rfl
 |_::l=>ei l
def ek{hs:List Int}{j:Nat}(h:j<hs.length):L2.atI (hs.map D.int) (j:Int)=some (.int hs[j]):=jF (by rw[Zm,Zj h];rfl)
def Hg{n j:Nat}(h:j<n):L2.ixN n (j:Int)=some j:=by
 unfold L2.ixN;rw[if_pos vB];simp[h]
def wK(g:List Int)(O:g.length<=63)(m:Nat)(P:1<=m)(G:m<=40):∃f:List Int,f.length=m/\(∀h∈f,0<=h/\h<DC)/\gS [.lst (g.map D.int),.int (m:Int)]=some (.new (f.map D.int)):=by
 have key:∀N:Nat,N<=100->∃i,forN (Bo (.name 2)) (exs (tab []) dG) (Bv 0 N) [~~~.lst (g.map D.int),~~~.int (m:Int),none,some (.ow ((List.replicate m (0:Int)).map D.int)),none,none]=some (.nx i) /\
   ∃(f:List Int) (j l n:Option B),(f.length=m/\∀h∈f,0<=h/\h<DC)/\i=[~~~.lst (g.map D.int),~~~.int (m:Int),j,some (.ow (f.map D.int)),l,n]:=λN v=>by
  refine jt (I:=λw=>∃(f:List Int) (j l n:Option B),(f.length=m/\∀h∈f,0<=h/\h<DC)/\w=[~~~.lst (g.map D.int),~~~.int (m:Int),j,some (.ow (f.map D.int)),l,n]) _ (λd A w r=>?_) _ ⟨List.replicate m 0,none,none,none,⟨Yz,λh s=>by rw[(List.mem_replicate.mp s).2];decide⟩,rfl⟩;obtain⟨f,j,l,n,⟨p,q⟩,rfl⟩:=r
  unfold Bv at A;obtain⟨k,C,e⟩:=Zt.mp A
  have C:=Ym.mp C;rw[Ux] at e;subst e;have t:k%m<f.length:=by rw[p];exact Wi _ vB
  have H:(k:Int)%(m:Int)=((k%m:Nat):Int):=rfl;have E:L2.atI (f.map D.int) ((k:Int)%(m:Int))=some (.int f[k%m]):=ek t;have F:L2.ixN (f.map D.int).length ((k:Int)%(m:Int))=some (k%m):=by rw[Zc,H];exact Hg t
  have u:=q _ (Kq t);have o1:Bk f[k%m] 48271=true:=Bt vB (by have:=u.2;unfold DC at this;omega) vA vA;have o2:Bk (k:Int) (k:Int)=true:=Bt vB vB vB vB;have o:∀y:Int,(f.set (k%m) (y%DC)).length=m/\∀h∈f.set (k%m) (y%DC),0<=h/\h<DC:=λy=>by
   refine⟨by rw[Wq];exact p,λh s=>?_⟩
   rcases List.mem_or_eq_of_mem_set s with z|z
   ·exact q h z
   ·subst z;exact⟨Wt _ vA,Qq _ vA⟩
  by_cases z:g=[]
  ·subst z;refine⟨_,_,rfl,wF vB vB E F o1 o2,f.set (k%m) ((f[k%m]*48271+0+(k:Int)*(k:Int))%DC),_,_,_,o _,by rw[List.map_set];rfl⟩
  ·have J:0<g.length:=V7.mpr z;have K:k%g.length<g.length:=Wi _ J;refine⟨_,_,rfl,wD (L:=(g.length:Int)) (c:=g[k%g.length]) (by rw[Zc]) (eq_true vB) (eq_false vB) vB vB vB (ek K) E F o1 o2,f.set (k%m) ((f[k%m]*48271+g[k%g.length]%DC+(k:Int)*(k:Int))%DC),_,_,_,o _,by rw[List.map_set]⟩
 obtain⟨N,v,e⟩:∃N:Nat,N<=100/\(if (m:Int)<(g.length:Int) then(g.length:Int) else(m:Int))=(N:Int):=by
  by_cases z:(m:Int)<(g.length:Int)
  ·exact⟨g.length,by omega,if_pos z⟩
  ·exact⟨m,by omega,if_neg z⟩
 obtain⟨i,M,f,j,l,n,⟨p,q⟩,rfl⟩:=key N v
 refine⟨f,p,q,?_⟩
 unfold gS;exact wG (L:=(g.length:Int)) (N:=(N:Int)) (by rw[Zc]) (eq_false vB) e (eq_true ⟨by omega,by omega⟩) (wJ vB) (ei _) (by rw[Zz];exact M)
end
open Sf Mg
section
variable{Γ:Nat->∅}
def bJ:∅
 |[.int t,.int b]=>if 0<b/\b.natAbs<2^9000 then some (.val (fr (Rat.divInt t b))) else none
 |_=>none
def fw{t b:Int}(h:0<b)(d:b.natAbs<2^9000):bJ [.int t,.int b]=some (.val (fr (Rat.divInt t b))):=if_pos ⟨h,d⟩
def ok_law_fraction(g:Γ 12=B9):∀d w,d.length=2->bJ d=some w->run Γ ll 3 d=some w:=by
 intro d w _ h;unfold bJ at h;split at h
 ·rename_i t b _;split at h
  ·rename_i z;cases h;have e:b≠0:=by omega
   obtain⟨j,i⟩:=o5 (t:=t) e z.2
   rw[o6 e];have f:¬b<0:=by omega
   unfold Dj Sf.low2 by_ ll;rw[if_neg f];have l:=@gI;clear z e f i;walk_at "evh"
  ·cases h
 ·cases h
def bx:∅:=fr2 C9 λx y=>fr (x+y)
def cD:∅:=fr2 C9 λx y=>fr (x*y)
def dm:∅:=fr2 C9 λx y=>.bl (decide (x<y))
def KJ{x y:Rat}(d:Sz 4400 x)(e:Sz 4400 y):0<(x.den:Int)*(y.den:Int)/\((x.den:Int)*(y.den:Int)).natAbs<2^9000:=by
 refine⟨Wh (den_pos x) (den_pos y),?_⟩
 rw[Z9,Yq,Yq];exact Zg (bu d.b e.b) (Bm vA)
def ok_law_plus(e:Γ 103=bJ):∀d w,d.length=2->bx d=some w->run Γ lr 2 d=some w:=by
 intro d w _ h;obtain⟨x,y,rfl,f,rfl⟩:=dC h
 obtain⟨sx,sy⟩:=dD f
 obtain⟨g,i⟩:=KJ sx sy
 have j:Bk x.num (y.den:Int)=true:=Bf sx.t (Be sy) vA vA;have l:Bk y.num (x.den:Int)=true:=Bf sy.t (Be sx) vA vA;have m:Bk (x.den:Int) (y.den:Int)=true:=Bf (Be sx) (Be sy) vA vA;have q:=fw (t:=x.num*(y.den:Int)+y.num*(x.den:Int)) g i;rw[add_r] at q;clear sx sy g i f h;unfold lr;show run Γ _ 2 [fr x,fr y]=some (.val (fr (x+y)));generalize fr (x+y)=z at *;unfold fr;walk_at "evh"
def pJ(e:Γ 103=bJ):∀d w,d.length=2->cD d=some w->run Γ Bx 2 d=some w:=by
 intro d w _ h;obtain⟨x,y,rfl,f,rfl⟩:=dC h
 obtain⟨sx,sy⟩:=dD f
 obtain⟨g,i⟩:=KJ sx sy
 have j:Bk x.num y.num=true:=Bf sx.t sy.t vA vA;have l:Bk (x.den:Int) (y.den:Int)=true:=Bf (Be sx) (Be sy) vA vA;have q:=fw (t:=x.num*y.num) g i;rw[mul_r] at q;clear sx sy g i f h;unfold Bx;show run Γ _ 2 [fr x,fr y]=some (.val (fr (x*y)));generalize fr (x*y)=z at *;unfold fr;walk_at "evh"
def ok_law_less:∀d w,d.length=2->dm d=some w->run Γ lu 2 d=some w:=by
 intro d w _ h;obtain⟨x,y,e,f,g⟩:=dC h
 subst e;subst g;obtain⟨sx,sy⟩:=dD f
 have i:Bk x.num (y.den:Int)=true:=Bf sx.t (Be sy) vA vA;have j:Bk y.num (x.den:Int)=true:=Bf sy.t (Be sx) vA vA;rw[o7];clear sx sy f h;unfold lu;walk_at "evh"
end
section
variable{Γ:Nat->∅}
def pP(p:Lb.Pt):D:=.tup [.int p.1,.int p.2]
abbrev el:Ss:=#v[.app 1 (.bin .add (.bin .add (.ix (.var 1) (.neg (.int 1))) (.int 1)) (.bin .mod (.bin .fdiv (.ix (.var 0) (.int 2)) (.bin .add (.int 2) (.bin .mul (.int 3) (.var 2)))) (.int 3)))]
abbrev et:Ss:=#v[.app 3 (.bin .add (.bin .add (.ix (.var 3) (.neg (.int 1))) (.int 1)) (.bin .mod (.bin .fdiv (.ix (.var 0) (.int 4)) (.bin .add (.int 1) (.bin .mul (.int 3) (.var 2)))) (.int 3)))]
def wL{f d:List D}{g k x:Int}{h i:Option B}(l:L2.atI f 2=some (.int g))(m:L2.atI d (-1)=some (.int x))(j:0<2+3*k)(n:br (2+3*k)=true)(o:Bk 3 k=true)(p:(d.length<PySem.sizeLine)=True):
  exs Γ el [~~~.lst f,some (.ow d),~~~.int k,h,i]=some (.nx [~~~.lst f,some (.ow (d++[.int (x+1+g/(2+3*k)%3)])),~~~.int k,h,i]):=by
 have e:=dY (a:=g) j;unfold el;clear j;walk_at "evh"
def wM{f d:List D}{g k x:Int}{h i:Option B}(l:L2.atI f 4=some (.int g))(m:L2.atI d (-1)=some (.int x))(j:0<1+3*k)(n:br (1+3*k)=true)(o:Bk 3 k=true)(p:(d.length<PySem.sizeLine)=True):
  exs Γ et [~~~.lst f,h,~~~.int k,some (.ow d),i]=some (.nx [~~~.lst f,h,~~~.int k,some (.ow (d++[.int (x+1+g/(1+3*k)%3)])),i]):=by
 have e:=dY (a:=g) j;unfold et;clear j;walk_at "evh"
theorem jH{bt:D->CB->Option CB}{fb:CB->Option Out}{I:Nat->CB->Prop}:∀(l:List D) (k:Nat) (e:CB),I k e->(∀j d e,l[j]? = some d->I (k+j) e->∃i f,bt d e=some i/\fb i=some (.nx f)/\I (k+j+1) f)->∃g,forN bt fb l e=some (.nx g)/\I (k+l.length) g
 |[],k,e,h,_=>⟨e,rfl,h⟩
 |d::l,k,e,h,st=>by
  obtain⟨i,f,m,n,o⟩:=st 0 d e rfl h
  obtain⟨g,p,q⟩:=jH l (k+1) f o λj r e s t=>by
   obtain⟨u,v,a,b,c⟩:=st (j+1) r e (by rw[Y7];exact s) (by rw[show k+(j+1)=k+1+j by omega];exact t)
   exact⟨u,v,a,b,by rw[show k+1+j+1=k+(j+1)+1 by omega];exact c⟩
  refine⟨g,?_,by rw[Zw,show k+(l.length+1)=k+1+l.length by omega];exact q⟩
  unfold forN;rw[m];simp only
  rw[n];exact p
def fy{bt:D->CB->Option CB}{fb:CB->Option Out}{I:Nat->CB->Prop}(n:Nat)(g:CB)(h:I 0 g)(s:∀(j:Nat) g,j<n->I j g->∃i l,bt (.int (j:Int)) g=some i/\fb i=some (.nx l)/\I (j+1) l):∃f,forN bt fb (Bv 0 n) g=some (.nx f)/\I n f:=by
 have p:(Bv 0 n).length=n:=by unfold Bv;rw[Zc,Z3]
 obtain⟨f,e,q⟩:=jH (bt:=bt) (fb:=fb) (I:=I) (Bv 0 n) 0 g h λj d g m r=>by
  have o:=(Zi.mp m).1;rw[p] at o;unfold Bv at m;rw[Zm,Ua o] at m;cases m;rw[W8] at r |-;dsimp only;rw[Ux];exact s j g o r
 rw[W8,p] at q;exact⟨f,e,q⟩
structure Gr(k:Nat)(xs:List Int):Prop where
 ex:∃ys x,xs=ys++[x]
 srt:xs.Pairwise (· < ·)
 len:xs.length=k+1
 bd:∀x∈xs,-3<=x/\x<=3*(k:Int)
def Gr.one{x:Int}(h : -3<=x/\x<=0):Gr 0 [x]:=⟨⟨[],x,rfl⟩,Wx _ _,rfl,λy d=>by rw[Zx.mp d];omega⟩
def Gr.more{k:Nat}{f:List Int}{x e:Int}(h:Gr k (f++[x]))(i:0<=e)(j:e<=2):Gr (k+1) (f++[x]++[x+1+e]):=by
 have l:=h.bd x (Yn _ (.head _));refine⟨⟨_,_,rfl⟩,Jv.mpr ⟨h.srt,Wx _ _,λy d z g=>?_⟩,by rw[Z8,h.len];rfl,λy d=>?_⟩
 ·rw[Zx.mp g];rcases Yw.mp d with q|q
  ·have:=(Jv.mp h.srt).2.2 y q x (.head _);omega
  ·rw[Zx.mp q];omega
 ·rcases Yw.mp d with q|q
  ·have:=h.bd y q;omega
  ·rw[Zx.mp q];omega
def pL{d:List Int}{x:Int}:L2.atI ((d++[x]).map D.int) (-1)=some (.int x):=by
 rw[Yl];exact L2.atI_last _ _
def wN{f:List D}{h:Int}(l:L2.atI f 2=some (.int h)){x:Int}(m : -3<=x/\x<=0)(n:Nat)(r:n<=10):∃d o,Gr n d/\forN (Bo (.name 2)) (exs Γ el) (Bv 0 n) [~~~.lst f,some (.ow ([x].map D.int)),none,none,none]=some (.nx [~~~.lst f,some (.ow (d.map D.int)),o,none,none]):=by
 have s:(1000:Nat)<=PySem.sizeLine:=by decide
 obtain⟨p,e,d,c,g,rfl⟩:=fy (bt:=Bo (.name 2)) (fb:=exs Γ el) (I:=λk i=>∃d c,Gr k d/\i=[~~~.lst f,some (.ow (d.map D.int)),c,none,none]) n _ ⟨[x],none,Gr.one m,rfl⟩ λj i t q=>by
  obtain⟨d,c,g,rfl⟩:=q
  obtain⟨u,y,rfl⟩:=g.ex
  have v:=g.len;refine⟨_,_,rfl,wL (k:=(j:Int)) l pL vB (dZ vB vB) (Bt vA vA vB vB) (eq_true (by rw[Zc];omega)),_,~~~.int (j:Int),g.more (e:=h/(2+3*(j:Int))%3) vB vB,?_⟩
  simp only[Yl,Zy,Wp]
 exact⟨d,c,g,e⟩
def wO{f:List D}{i:Int}{c1 c2:Option B}(m:L2.atI f 4=some (.int i)){x:Int}(o : -3<=x/\x<=0)(n:Nat)(r:n<=10):∃d h,Gr n d/\forN (Bo (.name 2)) (exs Γ et) (Bv 0 n) [~~~.lst f,c1,c2,some (.ow ([x].map D.int)),none]=some (.nx [~~~.lst f,c1,h,some (.ow (d.map D.int)),none]):=by
 have s:(1000:Nat)<=PySem.sizeLine:=by decide
 obtain⟨p,e,d,c,g,rfl⟩:=fy (bt:=Bo (.name 2)) (fb:=exs Γ et) (I:=λk l=>∃d c,Gr k d/\l=[~~~.lst f,c1,c,some (.ow (d.map D.int)),none]) n _ ⟨[x],c2,Gr.one o,rfl⟩ λj l t q=>by
  obtain⟨d,c,g,rfl⟩:=q
  obtain⟨u,y,rfl⟩:=g.ex
  have v:=g.len;refine⟨_,_,rfl,wM (k:=(j:Int)) m pL vB (dZ vB vB) (Bt vA vA vB vB) (eq_true (by rw[Zc];omega)),_,~~~.int (j:Int),g.more (e:=i/(1+3*(j:Int))%3) vB vB,?_⟩
  simp only[Yl,Zy,Wp]
 exact⟨d,c,g,e⟩
abbrev jI:E:=(.comp (.bin .mul (.var 1) (.var 1)) (.name 1) (.seq (.bin .add (.var 1) (.var 3))) 2 [] .non)
abbrev jJ:E:=(.comp (.tup #v[.var 1,.bin .mul (.var 1) (.var 1)]) (.name 1) (.seqV 1) 2 [] .non)
abbrev jK:E:=(.comp (.tup #v[.var 1,.bin .sub (.var 2) (.bin .mul (.var 1) (.var 1))]) (.name 1) (.rev (.var 3)) 2 [4] .non)
end
open Sf Mg
section
variable{Γ:Nat->∅}
theorem lZ:∀l:List Int,cj (l.map D.int)=some l
 |[]=>rfl
 |a::l=>by
  show(cj (l.map D.int)).map _=_;rw[lZ l];rfl
theorem pM:∀l:List Int,l≠[]->∃m,maxI l=some m
 |[],h=>absurd rfl h
 |[a],_=>⟨a,rfl⟩
 |a::b::l,_=>by
  obtain⟨m,e⟩:=pM (b::l) (λz=>by cases z)
  exact⟨_,by unfold maxI;rw[e];rfl⟩
def IK{x y:Int}(h:x*x<=y*y): -(y.natAbs:Int)<=x/\x<=(y.natAbs:Int):=by
 have e:(y.natAbs:Int)*(y.natAbs:Int)=y*y:=Qd y;have n:(0:Int)<=(y.natAbs:Int):=Yx _;generalize (y.natAbs:Int)=m at *;constructor
 ·refine Kl.mp λz=>?_;have:=Wh (show 0 < -m-x by omega) (show 0<m-x by omega)
  have d:(-m-x)*(m-x)=x*x-m*m:=by grind
  omega
 ·refine Kl.mp λz=>?_;have:=Wh (show 0<x-m by omega) (show 0<x+m by omega)
  have d:(x-m)*(x+m)=x*x-m*m:=by grind
  omega
def jL{A C:List D}(h:A.length+C.length<=1000):Df .add (.lst A) (.lst C)=some (.new (A++C)):=by
 have d:(1000:Nat)<=PySem.sizeLine:=by decide
 exact if_pos (Y9 h d)
def l4{x:Int}(d : -31<=x)(e:x<=31):Bk x x=true:=Bt vB vB vB vB
def wQ{d e:List Int}{o1 o2 o3:Option D}(f:∀x∈d++e,-31<=x/\x<=31)(i:d.length+e.length<=1000):ev Γ jI [o1,some (.lst (d.map D.int)),o2,some (.lst (e.map D.int)),o3]=some (.new (((d++e).map λx=>x*x).map D.int)):=by
 have m:(1000:Nat)<=PySem.sizeLine:=by decide
 rw[Yg];refine d7 (l:=d++e) (g:=D.int) (h:=D.int ∘ λx=>x*x) ?_ (by rw[Z8];omega) rfl (λx j=>?_)
 ·have n:=jL (A:=d.map D.int) (C:=e.map D.int) (by rw[Zc,Zc];exact i);rw[Yl];clear f i m;walk_at "evh"
 ·have o:=l4 (f x j).1 (f x j).2;clear f i m j;walk_at "evh"
  rfl
def wR{d:List Int}{o1 o2 o3 o4:Option D}(f:∀x∈d,-31<=x/\x<=31)(j:d.length<=1000):ev Γ jJ [o1,some (.lst (d.map D.int)),o2,o3,o4]=some (.new ((d.map Lb.low2).map pP)):=by
 have m:(1000:Nat)<=PySem.sizeLine:=by decide
 rw[Yg];refine d7 (l:=d) (g:=D.int) (h:=pP ∘ Lb.low2) ?_ vB rfl (λx i=>?_)
 ·clear f j m;walk_at "evh"
 ·have o:=l4 (f x i).1 (f x i).2;have e:(pP ∘ Lb.low2) x=.tup [.int x,.int (x*x)]:=rfl;clear f j m i;walk_at "evh"
def wU{d:List Int}{o1 o2 o3:Option D}{T:Int}(f:∀x∈d,-31<=x/\x<=31)(j:d.length<=1000):ev Γ jK [o1,o2,o3,some (.lst (d.map D.int)),some (.int T)]=some (.new ((d.reverse.map (Lb.high2 T)).map pP)):=by
 have m:(1000:Nat)<=PySem.sizeLine:=by decide
 rw[Yg];refine d7 (l:=d.reverse) (g:=D.int) (h:=pP ∘ Lb.high2 T) ?_ (by rw[W3];omega) rfl (λx i=>?_)
 ·have e:(d.map D.int).reverse=d.reverse.map D.int:=by rw[List.map_reverse]
  have n:∀l,Ej (.lst l)=some l:=λ_=>rfl
  clear f j m;walk_at "evh"
 ·have o:=l4 (f x (Jm.mp i)).1 (f x (Jm.mp i)).2;have e:(pP ∘ Lb.high2 T) x=.tup [.int x,.int (T-x*x)]:=rfl;clear f j m i;walk_at "evh"
structure RgOk(R:List Lb.Pt):Prop where
 tri:Lb.Tri R
 three:3<=R.length
 few:R.length<=30
 bd:∀p∈R,(-4000<=p.1/\p.1<=4000)/\(-4000<=p.2/\p.2<=4000)
def wV{n m:Nat}{h i:List Int}(j:Gr n h)(l:Gr m i)(n1:1<=n)(F:n<=10)(G:m<=10){M T:Int}(u:maxI ((h++i).map λx=>x*x)=some M)(v:2*M<T)(H:T<=2*M+20):RgOk (h.map Lb.low2++i.reverse.map (Lb.high2 T)):=by
 obtain⟨w,r⟩:=iH u
 obtain⟨z,A,e⟩:=Zt.mp w
 have e:z*z=M:=e;have t : -3<=z/\z<=30:=by
  rcases Yw.mp A with q|q
  ·have:=j.bd z q;omega
  ·have:=l.bd z q;omega
 have f:∀x:Int,-3<=x->x<=30->x*x<=900:=λx a b=>by
  have:=Yy (show 0<=30-x by omega) (show 0<=30+x by omega)
  have o:(30-x)*(30+x)=900-x*x:=by grind
  omega
 have B:=f z t.1 t.2;rw[e] at B;have I:0<=M:=by
  have:=Qd z
  rw[<-e,<-this];exact Yy (Yx _) (Yx _)
 have g:∀x∈h++i,-(z.natAbs:Int)<=x/\x<=(z.natAbs:Int):=λx d=>IK (by rw[e];exact r _ (Zt.mpr ⟨x,d,rfl⟩))
 have J:=l.len;have K:=j.len;refine⟨Lb.tri_bows (m:=(z.natAbs:Int)) j.srt (List.pairwise_reverse.mpr l.srt) (λx d=>g x (Qw _ d)) (λy C=>g y (Yn _ (Jm.mp C))) ?_,?_,?_,λp D=>?_⟩
 ·rw[Qd,e];exact v
 ·rw[Z8,Zc,Zc,W3];omega
 ·rw[Z8,Zc,Zc,W3];omega
 ·rcases Yw.mp D with q|q
  ·obtain⟨x,d,o⟩:=Zt.mp q
   have b:=j.bd x d;have s:=f x vB vB;have L:=r _ (Zt.mpr ⟨x,Qw _ d,rfl⟩);have E:0<=x*x:=by rw[<-Qd x];exact Yy (Yx _) (Yx _)
   rw[<-o];exact⟨⟨by show -4000<=x;omega,by show x<=4000;omega⟩,by show -4000<=x*x;omega,by show x*x<=4000;omega⟩
  ·obtain⟨x,d,o⟩:=Zt.mp q
   have b:=l.bd x (Jm.mp d);have s:=f x vB vB;have E:0<=x*x:=by rw[<-Qd x];exact Yy (Yx _) (Yx _)
   rw[<-o];exact⟨⟨by show -4000<=x;omega,by show x<=4000;omega⟩,by show -4000<=T-x*x;omega,by show T-x*x<=4000;omega⟩
end
open Sf Mg
section
variable{Γ:Nat->∅}
abbrev cE:Ss:=#v[.asg 3 (.tup #v[.bin .add (.ix (.var 1) (.int 0)) (.ix (.var 2) (.int 0)),.bin .add (.ix (.var 1) (.int 1)) (.ix (.var 2) (.int 1))]),.asg 4 (.bin .mod (.ix (.var 0) (.int 0)) (.int 5)),.iff (.cmp .eq (.var 4) (.int 2)) #v[.ret (.lst #v[.tup #v[.int 0,.int 0],.var 1,.var 3,.var 2])] .nil,.iff (.cmp .eq (.var 4) (.int 3)) #v[.ret (.lst #v[.tup #v[.int 0,.int 0],.var 1,.var 2])] .nil,.iff (.cmp .eq (.var 4) (.int 4)) #v[.asg 5 (.tup #v[.bin .add (.ix (.var 1) (.int 0)) (.ix (.var 3) (.int 0)),.bin .add (.ix (.var 1) (.int 1)) (.ix (.var 3) (.int 1))]),.asg 6 (.tup #v[.bin .add (.ix (.var 2) (.int 0)) (.ix (.var 3) (.int 0)),.bin .add (.ix (.var 2) (.int 1)) (.ix (.var 3) (.int 1))]),.ret (.lst #v[.tup #v[.int 0,.int 0],.var 1,.var 5,.tup #v[.bin .mul (.int 2) (.ix (.var 3) (.int 0)),.bin .mul (.int 2) (.ix (.var 3) (.int 1))],.var 6,.var 2])] .nil,.ret (.call 105 #v[.var 0])]
def wW{h:List D}{i j l m e f g d:Int}(o:L2.atI h 1=some (.int i))(p:L2.atI h 2=some (.int j))(q:L2.atI h 3=some (.int l))(r:L2.atI h 4=some (.int m))(s:1+i%5=e)(t:j%7-3=f)(u:0-l%4=g)(v:1+m%5=d)
 (w:Bk e d=true)(z:Bk f g=true):run Γ jl 7 [.lst h]=Dw (exs Γ cE [~~~.lst h,~~~.tup [.int e,.int f],~~~(.tup [.int g,.int (if e*d<=f*g then d+10 else d)]),none,none,none,none]):=by
 show run Γ (.cons (.asg 1 (.tup #v[.bin .add (.int 1) (.bin .mod (.ix (.var 0) (.int 1)) (.int 5)),.bin .sub (.bin .mod (.ix (.var 0) (.int 2)) (.int 7)) (.int 3)])) (.cons (.asg 2 (.tup #v[.bin .sub (.int 0) (.bin .mod (.ix (.var 0) (.int 3)) (.int 4)),.bin .add (.int 1) (.bin .mod (.ix (.var 0) (.int 4)) (.int 5))])) (.cons (.iff (.cmp .le (.bin .mul (.ix (.var 1) (.int 0)) (.ix (.var 2) (.int 1))) (.bin .mul (.ix (.var 1) (.int 1)) (.ix (.var 2) (.int 0)))) #v[.asg 2 (.tup #v[.ix (.var 2) (.int 0),.bin .add (.ix (.var 2) (.int 1)) (.int 10)])] .nil) cE))) 7 _=_;generalize cE=A at *;by_cases c:e*d<=f*g
 ·rw[if_pos c];have n:decide (e*d<=f*g)=true:=decide_eq_true c;clear c;walk_at "evh"
 ·rw[if_neg c];have n:decide (e*d<=f*g)=false:=decide_eq_false c;clear c;walk_at "evh"
section
variable{HS:List D}{h0 u0 u1 v0 v1:Int}(a0:L2.atI HS 0=some (.int h0))
include a0
def FW(e:h0%5=2):Dw (exs Γ cE [~~~.lst HS,~~~.tup [.int u0,.int u1],~~~.tup [.int v0,.int v1],none,none,none,none])=some (.new [.tup [.int 0,.int 0],.tup [.int u0,.int u1],.tup [.int (u0+v0),.int (u1+v1)],.tup [.int v0,.int v1]]):=by
 unfold cE;walk_at "evh"
def FV(e:h0%5=3):Dw (exs Γ cE [~~~.lst HS,~~~.tup [.int u0,.int u1],~~~.tup [.int v0,.int v1],none,none,none,none])=some (.new [.tup [.int 0,.int 0],.tup [.int u0,.int u1],.tup [.int v0,.int v1]]):=by
 unfold cE;walk_at "evh"
def FU(e:h0%5=4)(d:Bk 2 (u0+v0)=true)(f:Bk 2 (u1+v1)=true):Dw (exs Γ cE [~~~.lst HS,~~~.tup [.int u0,.int u1],~~~.tup [.int v0,.int v1],none,none,none,none])=some (.new [.tup [.int 0,.int 0],.tup [.int u0,.int u1],.tup [.int (u0+(u0+v0)),.int (u1+(u1+v1))],.tup [.int (2*(u0+v0)),.int (2*(u1+v1))],.tup [.int (v0+(u0+v0)),.int (v1+(u1+v1))],.tup [.int v0,.int v1]]):=by
 unfold cE;walk_at "evh"
def wX{z:Int}{φ:∅}(d:Γ 105=φ){w:W}(e:h0%5=z)(d2:decide (z=2)=false)(f:decide (z=3)=false)(g:decide (z=4)=false)(q:φ [.lst HS]=some w):Dw (exs Γ cE [~~~.lst HS,~~~.tup [.int u0,.int u1],~~~.tup [.int v0,.int v1],none,none,none,none])=some w:=by
 unfold cE;walk_at "evh"
end
abbrev fz:Ss:=#v[.asg 9 (.call 103 #v[.bin .add (.bin .mul (.var 7) (.var 2)) (.bin .mod (.ix (.var 0) (.int 6)) (.var 3)),.var 4]),.app 6 (.tup #v[.var 9,.call 103 #v[.bin .add (.bin .mul (.var 8) (.var 2)) (.bin .mod (.ix (.var 0) (.int 7)) (.var 3)),.var 4]])]
def wY{φ:∅}(h:Γ 103=φ){d L:List D}{x y b o s e f:Int}{i j l:Option B}{X Y:D}(m:L2.atI d 6=some (.int e))(n:L2.atI d 7=some (.int f))(g:0<o)(p:Bk x b=true)(q:Bk y b=true)
 (r:φ [.int (x*b+e%o),.int s]=some (.val X))(t:φ [.int (y*b+f%o),.int s]=some (.val Y))(l1:lf X=true)(l2:lf Y=true)(u:(L.length<PySem.sizeLine)=True):
  exs Γ fz [~~~.lst d,i,~~~.int b,~~~.int o,~~~.int s,j,some (.ow L),~~~.int x,~~~.int y,l]=some (.nx [~~~.lst d,i,~~~.int b,~~~.int o,~~~.int s,j,some (.ow (L++[.tup [X,Y]])),~~~.int x,~~~.int y,~~~X]):=by
 have v:=bP (a:=e) g;have w:=bP (a:=f) g;have z:(o=0)=False:=eq_false vB;unfold fz;clear g;walk_at "evh"
def wZ{φ ψ:∅}(j:Γ 46=ψ)(i:Γ 103=φ){e d A C O:List D}{g h b o s k:Int}{m:D}{c1 l n p:Option B}(q:L2.atI e 0=some (.int g))(r:L2.atI e 5=some (.int h))
 (t:ψ [.lst e]=some (.new d))(u:lfL d=true)(v:L2.atI [D.int 1,D.int (1+h%1000000000)] (g/5%2)=some (.int b))(w:L2.atI [D.int 10,D.int 1000000000000000000] (g/10%2)=some (.int o))(z:L2.atI [D.int 1,D.int (1+h%6)] (g/20%2)=some (.int s))
 (mn:DD d=some m)(E:EH (.lst d) m=some (.val (.int k)))(F:cutD d (some k) none=A)(G:cutD d none (some k)=C)(H:Df .add (.lst A) (.lst C)=some (.new (A++C)))(I:lfL (A++C)=true)
 (f:forN (Bo (.tup [7,8])) (exs Γ fz) (A++C) [~~~.lst e,some (.ow d),~~~.int b,~~~.int o,~~~.int s,~~~.int k,some (.ow []),none,none,none]=some (.nx [~~~.lst e,some (.ow d),~~~.int b,~~~.int o,~~~.int s,~~~.int k,some (.ow O),l,n,p])):
  run Γ jm 10 [.lst e]=some (.new O):=by
 show run Γ #v[.asg 1 (.call 46 #v[.var 0]),.asg 2 (.ix (.lst #v[.int 1,.bin .add (.int 1) (.bin .mod (.ix (.var 0) (.int 5)) (.bin .pow (.int 10) (.int 9)))]) (.bin .mod (.bin .fdiv (.ix (.var 0) (.int 0)) (.int 5)) (.int 2))),.asg 3 (.ix (.lst #v[.int 10,.bin .pow (.int 10) (.int 18)]) (.bin .mod (.bin .fdiv (.ix (.var 0) (.int 0)) (.int 10)) (.int 2))),.asg 4 (.ix (.lst #v[.int 1,.bin .add (.int 1) (.bin .mod (.ix (.var 0) (.int 5)) (.int 6))]) (.bin .mod (.bin .fdiv (.ix (.var 0) (.int 0)) (.int 20)) (.int 2))),.asg 5 (.idx (.var 1) (.bi .min #v[.var 1])),.asg 6 (.lst .nil),.frr (.tup [7,8]) (.seq (.bin .add (.sl (.var 1) (.som (.var 5)) .non) (.sl (.var 1) .non (.som (.var 5))))) fz,.retV 6] 10 _=_;generalize fz=J at *;walk_at "evh"
end
open Sf Mg
theorem Le{d:Nat->Nat->Bool}{k n:Nat}(f:∀j,j<=n->j≠k->d k j=true)(g:∀j,j<=n->j≠k->d j k=false):∀m,m<=n->(m<k->PySem.argBest d m<=m)/\(k<=m->PySem.argBest d m=k)
 |0,_=>⟨λ_=>Zn _,λh=>by show 0=k;omega⟩
 |m+1,i=>by
  obtain⟨a,b⟩:=Le f g m vB
  unfold PySem.argBest;by_cases e:k<=m
  ·rw[b e,g (m+1) i vB];exact⟨λh=>by omega,λ_=>rfl⟩
  ·by_cases l:k=m+1
   ·have:=a vB
    rw[<-l,f _ vB vB];exact⟨λh=>by omega,λ_=>rfl⟩
   ·have:=a vB
    refine⟨λ_=>?_,λh=>by omega⟩
    split
    ·exact Zn _
    ·omega
def ltN_P{p q:Lb.Pt}:ltN (pP p) (pP q)=true↔Lb.ltP p q:=by
 have e:ltN (pP p) (pP q)=JN p.1 p.2 q.1 q.2:=rfl;rw[e];unfold JN D7 Lb.ltP;by_cases h:p.1=q.1
 ·by_cases d:p.2=q.2
  ·simp[h,d]
  ·simp[h,d]
 ·simp[h]
def fA{R:List Lb.Pt}{i:Nat}(d:i<R.length):R[i]? = some (R.getD i (0,0)):=by
 rw[Yf,Zj d];rfl
def w4{R:List Lb.Pt}{k:Nat}(F:Lb.LoP R k):DD (R.map pP)=some (pP (R.getD k (0,0))):=by
 have all:((R.map pP).all λd=>(Ew d).isSome)=true:=Uw.mpr λd h=>by
  obtain⟨q,_,e⟩:=Zt.mp h
  rw[<-e];rfl
 unfold DD;rw[if_pos all];have g:∀i,i<R.length->(R.map pP).getD i .non=pP (R.getD i (0,0)):=λi l=>by
  rw[Yf,Zm,fA l];rfl
 have lk:=F.lt;have e:eW (R.map pP)=k:=by
  unfold eW;rw[Zc];refine(Le (n:=R.length-1) (λj m f=>?_) (λj m f=>?_) (R.length-1) (Zn _)).2 vB
  ·show ltN _ _=true;rw[g k lk,g j vB];exact ltN_P.mpr (F.low j _ _ f (fA lk) (fA vB))
  ·show ltN _ _=false;rw[g k lk,g j vB];refine Ji.mpr λz=>?_;exact Lb.ltP_irr _ (Lb.ltP_trans (ltN_P.mp z) (F.low j _ _ f (fA lk) (fA vB)))
 rw[e,Zm,fA lk];rfl
def GK{a b:Lb.Pt}(h:eqD (pP a) (pP b)=true):a=b:=by
 unfold pP at h;simp only[eqD,eqL,Zl,beq_iff_eq,and_true] at h;exact Yt h.1 h.2
theorem Fp:∀R:List Lb.Pt,dOkL 49 (R.map pP)=true
 |[]=>rfl
 |p::R=>by
  show(dOk 49 (pP p) && dOkL 49 (R.map pP))=true;rw[Fp R];rfl
theorem l5:∀R:List Lb.Pt,lfL (R.map pP)=true
 |[]=>rfl
 |p::R=>by
  show(lf (pP p) && lfL (R.map pP))=true;rw[l5 R];rfl
def JS{R:List Lb.Pt}{k:Nat}(f:R.Nodup)(d:k<R.length):EH (.lst (R.map pP)) (pP (R.getD k (0,0)))=some (.val (.int (k:Int))):=by
 have e:R.getD k (0,0)=R[k]:=by rw[Yf,Zj d];rfl
 have h:DH (R.map pP) (pP (R.getD k (0,0)))=some k:=by
  unfold DH;rw[Fp,if_pos (show(true && dOk 50 (pP (R.getD k (0,0))))=true from rfl)];refine Ui.mpr ⟨by rw[Zc];exact d,?_,λj g=>?_⟩
  ·rw[Uv,e];exact gK 50 _ rfl
  ·rw[Uv,e];intro z;have:=GK z
   have:=(Kr (h₀:=by omega) (h₁:=d) f).mp this
   omega
 show(DH _ _).map _=_;rw[h];rfl
section
variable{Γ:Nat->∅}
end
structure Sh5(l:List (Rat×Rat)):Prop where
 shp:IsShp l
 few:l.length<=30
 ov:∃s:Int,s≠0/\s.natAbs<2^3/\∀q∈l,Ov s 62 q
 sy:SyL 62 3 l
def l6{a b:D}{i:Int}(h:i=0\/i=1):L2.atI [a,b] i=some (if i=0 then a else b):=by
 rcases h with h|h<;>subst h<;>rfl
def bS(x:Rat):lf (fr x)=true:=rfl
open Sf Mg
section
variable{Γ:Nat->∅}
end
open Sf Mg
section
variable{Γ:Nat->∅}
def jM{a b:Rat×Rat}(h:eqD (CC a) (CC b)=true):a=b:=by
 unfold CC fr at h;simp only[eqD,eqL,Zl,beq_iff_eq,and_true] at h;exact Yt (Rat.ext h.1.1 (by have:=h.1.2;omega)) (Rat.ext h.2.1 (by have:=h.2.2;omega))
theorem pN:∀{l r:List (Rat×Rat)},eqL (l.map CC) (r.map CC)=true->l=r
 |[],[],_=>rfl
 |[],_::_,h=>by simp[eqL] at h
 |_::_,[],h=>by simp[eqL] at h
 |a::l,b::r,h=>by
  simp only[Zy,eqL,Zl] at h;rw[jM h.1,pN h.2]
def pO(l r:List (Rat×Rat)):CI .eq (.lst (l.map CC)) (.lst (r.map CC))=some (decide (l=r)):=by
 show(if (dOkL 49 (l.map CC) && dOkL 49 (r.map CC))=true then some (eqL (l.map CC) (r.map CC)) else none)=_;rw[gL,gL,if_pos (show(true && true)=true from rfl)];congr 1
 by_cases e:l=r
 ·subst e;rw[CV 49 _ (gL _),decide_eq_true rfl]
 ·rw[decide_eq_false e];exact Ji.mpr λz=>e (pN z)
end
open Sf
def bD(a:PySem.Addr)(p:Int)(h:H3)(x:Rat)(d:D):D:=.obj a [.int p,hD h,fr x,d]
section
variable{Γ:Nat->∅}
def bI:∅:=run (tab []) jf 2
def ok_trio_at:∀d w,d.length=2->bI d=some w->run Γ jf 2 d=some w:=λd w _ h=>bq [] (λp e=>by cases e) vA d w h
def w5{L:List D}{k:Int}{x y z:D}(d:L.length≠0)(e:L2.atI L (k-1)=some x)(f:L2.atI L k=some y)(g:L2.atI L ((k+1).fmod L.length)=some z):bI [.lst L,.int k]=some (.val (.tup [x,y,z])):=by
 unfold bI jf;generalize tab []=Γ;have h:((L.length:Nat):Int)≠0:=by omega
 walk_at "evh"
def cF:∅:=run (tab [(81,bR)]) jg 4
def ok_weights_of(e:Γ 81=bR):∀d w,d.length=1->cF d=some w->run Γ jg 4 d=some w:=λd w _ h=>bq [(81,bR)] (λp f=>by simp only[Zf,Zk,or_false] at f;subst f;exact e) vA d w h
def pQ{a0 a1 a2:PySem.Addr}{p0 p1 p2:Int}{d e f:H3}{x0 x1 x2:Rat}{c0 c1 c2:D}(b0:HB 3000 d)(b1:HB 3000 e)(h:HB 3000 f):
  cF [.tup [bD a0 p0 d x0 c0,bD a1 p1 e x1 c1,bD a2 p2 f x2 c2]]=some (.new [.int (CJ e f),.int (CJ f d),.int (CJ d e)]):=by
 unfold cF jg bD;generalize g:tab [(81,bR)]=Γ;have i:Γ 81=bR:=by rw[<-g];rfl
 have j:=jE b1 h;have l:=jE h b0;have m:=jE b0 b1;have n:lf (hD d)=true:=rfl;have l1:lf (hD e)=true:=rfl;have l2:lf (hD f)=true:=rfl;clear g b0 b1 h;walk_at "evh"
def dH:∅:=run (tab [(92,bI),(93,cF)]) ji 2
def ok_ends_all(f:Γ 92=bI)(g:Γ 93=cF):∀d w,d.length=2->dH d=some w->run Γ ji 2 d=some w:=λd w _ h=>bq [(92,bI),(93,cF)] (λp e=>by
 simp only[Zf,Zk,or_false] at e;rcases e with rfl|rfl<;>assumption) vA d w h
def w6{L:List D}{k:Int}{T:D}{u v w:Int}(g:bI [.lst L,.int k]=some (.val T))(h:cF [T]=some (.new [.int u,.int v,.int w])):dH [.lst L,.int k]=some (.val (.bl (decide (0<=v)))):=by
 unfold dH ji;generalize d:tab [(92,bI),(93,cF)]=Γ;have e:Γ 92=bI:=by rw[<-d];rfl
 have f:Γ 93=cF:=by rw[<-d];rfl
 clear d;walk_at "evh"
end
open Sf
section
variable{Γ:Nat->∅}
def cG:∅:=run (tab [(10,bB),(11,bw)]) jj 2
def ok_edge_by(f:Γ 10=bB)(g:Γ 11=bw):∀d w,d.length=2->cG d=some w->run Γ jj 2 d=some w:=λd w _ h=>bq [(10,bB),(11,bw)] (λp e=>by
 simp only[Zf,Zk,or_false] at e;rcases e with rfl|rfl<;>assumption) vA d w h
def pR{a:PySem.Addr}{p:Int}{h:H3}{x t:Rat}{cl:D}{m n q:Nat}(sc:Sz m (h.2.2:Rat))(e:Sz n t)(f:Sz q x)(i:m<=4400)(j:n<=4400)(l:q<=4400)(g:Sz 4400 (t*x)):
  cG [bD a p h x cl,fr t]=some (.val (fr ((h.2.2:Rat)-t*x))):=by
 have s:bw [fr t,fr x]=some (.val (fr (t*x))):=bz (Br e f j l);have u:bB [.tup [.int h.2.2,.int 1],fr (t*x)]=some (.val (fr ((h.2.2:Rat)-t*x))):=bz (x:=(h.2.2:Rat)) (Br sc g i vA);unfold cG jj bD;generalize d:tab [(10,bB),(11,bw)]=Γ;have o:Γ 10=bB:=by rw[<-d];rfl
 have r:Γ 11=bw:=by rw[<-d];rfl
 have v:hD h=.tup [.int h.1,.int h.2.1,.int h.2.2]:=rfl;generalize fr (t*x)=X at *;generalize fr ((h.2.2:Rat)-t*x)=Y at *;generalize fr t=Z at *;generalize fr x=w at *;clear d sc e f g;walk_at "evh"
def dI:∅:=run (tab [(10,bB),(11,bw),(20,cY),(81,bR),(99,cG)]) gx 8
def ok_meeting(f:Γ 10=bB)(g:Γ 11=bw)(i:Γ 20=cY)(j:Γ 81=bR)(l:Γ 99=cG):∀d w,d.length=3->dI d=some w->run Γ gx 8 d=some w:=λd w _ h=>bq [(10,bB),(11,bw),(20,cY),(81,bR),(99,cG)] (λp e=>by
 simp only[Zf,Zk,or_false] at e;rcases e with rfl|rfl|rfl|rfl|rfl<;>assumption) vA d w h
def xa{h10:Γ 10=bB}{h11:Γ 11=bw}{h20:Γ 20=cY}{h81:Γ 81=bR}{h99:Γ 99=cG}{a g:PySem.Addr}{p i:Int}{h d:H3}{x f:Rat}{j e T E1 E2 l m n o X Y q s:D}{r:Int}
 (l1:lf E1=true)(l2:lf E2=true)(v:lf X=true)(w:lf Y=true)
 (z:cG [bD a p h x j,T]=some (.val E1))(A:cG [bD g i d f e,T]=some (.val E2))(B:bR [hD h,hD d]=some (.val (.int r)))
 (C:bw [.tup [.int d.2.1,.int 1],E1]=some (.val l))(E:bw [.tup [.int h.2.1,.int 1],E2]=some (.val m))(F:bB [l,m]=some (.val X))
 (G:bw [.tup [.int h.1,.int 1],E2]=some (.val n))(H:bw [.tup [.int d.1,.int 1],E1]=some (.val o))(I:bB [n,o]=some (.val Y))
 (t:cY [X,.tup [.int r,.int 1]]=some (.val q))(u:cY [Y,.tup [.int r,.int 1]]=some (.val s)):
  run Γ gx 8 [bD a p h x j,bD g i d f e,T]=some (.val (.tup [q,s])):=by
 unfold bD hD at *;unfold gx;generalize fr x=Z at *;generalize fr f=J at *;walk_at "evh"
def bN:∅:=run (tab []) fj 2
def ok_belowR:∀d w,d.length=2->bN d=some w->run Γ fj 2 d=some w:=λd w _ h=>bq [] (λp e=>by cases e) vA d w h
def pS{a b c d:Int}(e:Bk a d=true)(f:Bk c b=true):bN [.tup [.int a,.int b],.tup [.int c,.int d]]=some (.val (.bl (decide (a*d<c*b)))):=by
 unfold bN fj;generalize tab []=Γ;walk_at "evh"
end
open Sf
section
variable{Γ:Nat->∅}
def C4:Option (Int×Int)->D
 |none=>.non
 |some p=>.tup [.int p.1,.int p.2]
def fD:Option Nat->D
 |none=>.non
 |some j=>.int (j:Int)
def DU(d:Nat->Option (Int×Int))(k:Nat)(f:Option Nat):Prop:=match f with
 |none=>∀i,i<k->d i=none
 |some j=>j<k/\∃p,d j=some p/\∀i q,i<k->d i=some q->p.1*q.2<=q.1*p.2
def dJ:∅:=run (tab [(21,bN)]) jh 4
def ok_earliest(e:Γ 21=bN):∀d w,d.length=1->dJ d=some w->run Γ jh 4 d=some w:=λd w _ h=>bq [(21,bN)] (λp f=>by
 simp only[Zf,Zk,or_false] at f;subst f;exact e) vA d w h
abbrev jN:Ss:=#v[.asg 3 (.fld (.ix (.var 0) (.var 2)) 3),.iff (.and (.cmp .notN (.var 3) .non) (.or (.cmp .isN (.var 1) .non) (.call 21 #v[.var 3,.fld (.ix (.var 0) (.var 1)) 3]))) #v[.asg 1 (.var 2)] .nil]
def xb{L:List D}{j:Nat}{a:PySem.Addr}{p:Int}{s l f:D}{d:Option B}(e:lf f=true)(h:L2.atI L (j:Int)=some (.obj a [.int p,s,l,.non])):
  exs Γ jN [~~~.lst L,~~~f,~~~.int (j:Int),d]=some (.nx [~~~.lst L,~~~f,~~~.int (j:Int),~~~.non]):=by
 walk_at "evh"
def xc{L:List D}{j:Nat}{a:PySem.Addr}{p t b:Int}{s l:D}{d:Option B}(h:L2.atI L (j:Int)=some (.obj a [.int p,s,l,.tup [.int t,.int b]])):
  exs Γ jN [~~~.lst L,~~~.non,~~~.int (j:Int),d]=some (.nx [~~~.lst L,~~~.int (j:Int),~~~.int (j:Int),~~~.tup [.int t,.int b]]):=by
 walk_at "evh"
def xg(f:Γ 21=bN){L:List D}{j i:Nat}{a g:PySem.Addr}{p m t b d e:Int}{s l n o:D}{u:Option B}{r:Bool}(h:L2.atI L (j:Int)=some (.obj a [.int p,s,l,.tup [.int t,.int b]]))(v:L2.atI L (i:Int)=some (.obj g [.int m,n,o,.tup [.int d,.int e]]))
 (q:bN [.tup [.int t,.int b],.tup [.int d,.int e]]=some (.val (.bl r))):
  exs Γ jN [~~~.lst L,~~~.int (i:Int),~~~.int (j:Int),u]=some (.nx [~~~.lst L,~~~(.int (if r=true then(j:Int) else(i:Int))),~~~.int (j:Int),~~~.tup [.int t,.int b]]):=by
 cases r
 ·walk_at "evh"
 ·walk_at "evh"
def xh{f:Nat->Option (Int×Int)}{k i:Nat}{p q:Int×Int}(l:∀i q,f i=some q->0<q.2)(h:DU f k (some i))(n:f i=some p)(g:f k=some q):DU f (k+1) (some (if q.1*p.2<p.1*q.2 then k else i)):=by
 obtain⟨o,A,e,m⟩:=h
 rw[n] at e;cases e;have s:=l _ _ n;have t:=l _ _ g;by_cases z:q.1*p.2<p.1*q.2
 ·rw[if_pos z];refine⟨Ww _,q,g,λj r u d=>?_⟩
  rcases Yk j k with c|c
  ·have a:=m j r c d;have v:=l _ _ d;have B:q.1*p.2*r.2<=p.1*q.2*r.2:=Qh (W9 z) (W9 v);have C:p.1*r.2*q.2<=r.1*p.2*q.2:=Qh a (W9 t);have w:(q.1*r.2)*p.2<=(r.1*q.2)*p.2:=by grind
   exact Int.le_of_mul_le_mul_right w s
  ·have:j=k:=by omega
   subst this;rw[g] at d;cases d;exact Gi _
 ·rw[if_neg z];refine⟨by omega,p,n,λj r u d=>?_⟩
  rcases Yk j k with c|c
  ·exact m j r c d
  ·have:j=k:=by omega
   subst this;rw[g] at d;cases d;omega
end
open Sf
section
variable{Γ:Nat->∅}
def cP{g:D->CB->Option CB}{h:CB->Option Out}{d:D}{l:List D}{i e f:CB}(j:g d i=some e)(m:h e=some (.nx f)):forN g h (d::l) i=forN g h l f:=by
 conv=>lhs;unfold forN
 rw[j];simp only;rw[m]
abbrev pT:Ss:=#v[.asg 1 (.bin .mul (.var 1) (.ix (.fld (.var 2) 2) (.int 1)))]
abbrev pU:Ss:=#v[.asg 3 (.bin .sub (.var 3) (.bin .mul (.bin .mul (.var 5) (.ix (.fld (.var 2) 1) (.int 2))) (.var 1))),.asg 4 (.bin .sub (.var 4) (.bin .mul (.bin .mul (.var 5) (.ix (.fld (.var 2) 2) (.int 0))) (.bin .fdiv (.var 1) (.ix (.fld (.var 2) 2) (.int 1)))))]
def l7{a:PySem.Addr}{T p s e:D}{c n d:Int}{f g i j:Option B}(h:Bk c d=true):
  exs Γ pT [~~~T,~~~.int c,~~~.obj a [p,s,.tup [.int n,.int d],e],f,g,i,j]=some (.nx [~~~T,~~~.int (c*d),~~~.obj a [p,s,.tup [.int n,.int d],e],f,g,i,j]):=by
 walk_at "evh"
def l8{a:PySem.Addr}{T p g:D}{c n d t b w h i f e:Int}{j:Option B}(l:Bk w f=true)(m:Bk (w*f) c=true)(o:Bk w n=true)(q:br d=true)(r:Bk (w*n) e=true)(s:c.fdiv d=e):
  exs Γ pU [~~~T,~~~.int c,~~~.obj a [p,.tup [.int h,.int i,.int f],.tup [.int n,.int d],g],~~~.int t,~~~.int b,~~~.int w,j] =
   some (.nx [~~~T,~~~.int c,~~~.obj a [p,.tup [.int h,.int i,.int f],.tup [.int n,.int d],g],~~~.int (t-w*f*c),~~~.int (b-w*n*e),~~~.int w,j]):=by
 walk_at "evh"
def o4(a:PySem.Addr)(p:D)(e f g n d:Int)(h:D):D:=.obj a [p,.tup [.int e,.int f,.int g],.tup [.int n,.int d],h]
def xi{a0 a1 a2:PySem.Addr}{p0 p1 p2 cl0 cl1 cl2:D}{s0 t0 u0 s1 t1 u1 s2 t2 u2 n0 n1 n2 d0 d1 d2 w0 w1 w2 c e0 e1 e2:Int}
 (j:Γ 93 [.tup [o4 a0 p0 s0 t0 u0 n0 d0 cl0,o4 a1 p1 s1 t1 u1 n1 d1 cl1,o4 a2 p2 s2 t2 u2 n2 d2 cl2]]=some (.new [.int w0,.int w1,.int w2]))
 (l:Bk 1 d0=true)(m:Bk (1*d0) d1=true)(n:Bk (1*d0*d1) d2=true)(o:1*d0*d1*d2=c)
 (p:Bk w0 u0=true)(q:Bk (w0*u0) c=true)(r:Bk w0 n0=true)(s:br d0=true)(t:Bk (w0*n0) e0=true)(u:c.fdiv d0=e0)
 (v:Bk w1 u1=true)(w:Bk (w1*u1) c=true)(z:Bk w1 n1=true)(A:br d1=true)(B:Bk (w1*n1) e1=true)(C:c.fdiv d1=e1)
 (E:Bk w2 u2=true)(F:Bk (w2*u2) c=true)(G:Bk w2 n2=true)(H:br d2=true)(I:Bk (w2*n2) e2=true)(J:c.fdiv d2=e2):
  exs Γ o_set_closing.1 [~~~.tup [o4 a0 p0 s0 t0 u0 n0 d0 cl0,o4 a1 p1 s1 t1 u1 n1 d1 cl1,o4 a2 p2 s2 t2 u2 n2 d2 cl2],none,none,none,none,none,none] =
   some (.nx [~~~.tup [o4 a0 p0 s0 t0 u0 n0 d0 cl0,o4 a1 p1 s1 t1 u1 n1 d1 cl1,o4 a2 p2 s2 t2 u2 n2 d2 cl2],~~~.int c,~~~o4 a2 p2 s2 t2 u2 n2 d2 cl2,~~~.int (0-w0*u0*c-w1*u1*c-w2*u2*c),
    ~~~.int (0-w0*n0*e0-w1*n1*e1-w2*n2*e2),~~~.int w2,~~~o4 a1 p1 s1 t1 u1 n1 d1 cl1]):=by
 have O:∃x,o4 a0 p0 s0 t0 u0 n0 d0 cl0=x/\x=o4 a0 p0 s0 t0 u0 n0 d0 cl0:=⟨_,rfl,rfl⟩;obtain⟨f,K,h⟩:=O
 have P:∃x,o4 a1 p1 s1 t1 u1 n1 d1 cl1=x/\x=o4 a1 p1 s1 t1 u1 n1 d1 cl1:=⟨_,rfl,rfl⟩;obtain⟨e,L,g⟩:=P
 have Q:∃x,o4 a2 p2 s2 t2 u2 n2 d2 cl2=x/\x=o4 a2 p2 s2 t2 u2 n2 d2 cl2:=⟨_,rfl,rfl⟩;obtain⟨d,M,i⟩:=Q
 rw[K,L,M] at j |-;have T:forN (Bo (.name 2)) (exs Γ pT) [f,e,d] [~~~.tup [f,e,d],~~~.int 1,none,none,none,none,none]=some (.nx [~~~.tup [f,e,d],~~~.int c,~~~d,none,none,none,none]):=by
  rw[h,g,i,<-o];rw[cP rfl (l7 l),cP rfl (l7 m),cP rfl (l7 n)];rfl
 have R:forN (Bo (.tup [5,2])) (exs Γ pU) [.tup [.int w0,f],.tup [.int w1,e],.tup [.int w2,d]] [~~~.tup [f,e,d],~~~.int c,~~~d,~~~.int 0,~~~.int 0,none,none] =
   some (.nx [~~~.tup [f,e,d],~~~.int c,~~~d,~~~.int (0-w0*u0*c-w1*u1*c-w2*u2*c),~~~.int (0-w0*n0*e0-w1*n1*e1-w2*n2*e2),~~~.int w2,none]):=by
  rw[h,g,i];rw[cP rfl (l8 p q r s t u),cP rfl (l8 v w z A B C),cP rfl (l8 E F G H I J)];rfl
 have U:CN [.int w0,.int w1,.int w2] [f,e,d]=[.tup [.int w0,f],.tup [.int w1,e],.tup [.int w2,d]]:=rfl;have V:lf e=false:=by rw[g];rfl
 have W:frz [~~~.tup [f,e,d],~~~.int c,~~~d,~~~.int 0,~~~.int 0,none,none]=[~~~.tup [f,e,d],~~~.int c,~~~d,~~~.int 0,~~~.int 0,none,none]:=rfl;unfold o_set_closing;dsimp only;generalize (0-w0*u0*c-w1*u1*c-w2*u2*c)=TT at *;generalize (0-w0*n0*e0-w1*n1*e1-w2*n2*e2)=N at *;have S:frz [~~~.tup [f,e,d],~~~.int c,~~~d,~~~.int TT,~~~.int N,~~~.int w2,none]=[~~~.tup [f,e,d],~~~.int c,~~~d,~~~.int TT,~~~.int N,~~~.int w2,none]:=rfl;clear K h L g M i l m n o p q r s t u v w z A B C E F G H I J;walk_at "evh"
def xj{f g i j l:Option B}{t b:Int}:ev Γ o_set_closing.2.1 (view [f,g,i,~~~.int t,~~~.int b,j,l])=some (.val (C4 (if 0<b then some (t,b) else none))):=by
 unfold o_set_closing;dsimp only;by_cases h:0<b
 ·have e:decide (0<b)=true:=decide_eq_true h;have d:C4 (if 0<b then some (t,b) else none)=.tup [.int t,.int b]:=by rw[if_pos h];rfl
  rw[d];walk_at "evh"
 ·have e:decide (0<b)=false:=decide_eq_false h;have d:C4 (if 0<b then some (t,b) else none)=.non:=by rw[if_neg h];rfl
  rw[d];walk_at "evh"
end
open Sf
section
variable{Γ:Nat->∅}
def Ls(p w g:Int):List (List Int):=if w=0 then [] else [[p,w.fdiv g]]
def shK(d e f h i j g:Int):List (List Int):=Ls d h g++(Ls e i g++(Ls f j g++[]))
end
open Mg Fi
def wy(h:H3):V:=((h.2.1:Rat),-(h.1:Rat))
def bO{h k:H3}:xr (wy h) (wy k)=((CJ h k:Int):Rat):=by
 unfold xr wy CJ;rw[K3,Yi,Yi];grind
def fB{h:H3}{v:V}:xr (wy h) v=(h.1:Rat)*v.1+(h.2.1:Rat)*v.2:=by unfold xr wy;grind
def Ey(d e f:H3)(g d1 d2:Int):Int:=0-CJ e f*d.2.2*(1*g*d1*d2)-CJ f d*e.2.2*(1*g*d1*d2)-CJ d e*f.2.2*(1*g*d1*d2)
def DN(d e f:H3)(h n1 n2 g d1 d2:Int):Int:=0-CJ e f*h*(d1*d2)-CJ f d*n1*(g*d2)-CJ d e*n2*(g*d1)
def Dy(g h i:H3)(d e f:Rat):Option (Int×Int):=
 if 0<DN g h i d.num e.num f.num d.den e.den f.den then some (Ey g h i d.den e.den f.den,DN g h i d.num e.num f.num d.den e.den f.den) else none
def l9(x:Rat):((x.num:Int):Rat)=x*((x.den:Int):Rat):=by
 have h:((x.den:Int):Rat)≠0:=λz=>x.den_nz (by
  have:=Qi.mp z
  omega)
 have e:x=(x.num:Rat)/((x.den:Int):Rat):=by
  conv=>lhs;rw[<-Vn x,Rat.mkRat_eq_div]
  rw[Gb]
 have d:x*((x.den:Int):Rat)=(x.num:Rat)/((x.den:Int):Rat)*((x.den:Int):Rat):=by
  conv=>lhs;lhs;rw[e]
 rw[d,Gn h]
def fC(x:Rat):(0:Rat)<((x.den:Int):Rat):=by
 rw[show(0:Rat)=((0:Int):Rat) from rfl,Yb];exact K5.mpr x.den_pos
def xk{d e f:H3}{g d1 d2:Int}:((Ey d e f g d1 d2:Int):Rat)=((g:Rat)*d1*d2)*(- gg (wy d) (wy e) (wy f) (d.2.2:Rat) (e.2.2:Rat) (f.2.2:Rat)):=by
 unfold Ey gg;rw[bO,bO,bO];simp only[K3,Yi];rw[show((0:Int):Rat)=0 from rfl,show((1:Int):Rat)=1 from rfl];grind
def pV{h0 h1 h2:H3}{x0 x1 x2:Rat}:((DN h0 h1 h2 x0.num x1.num x2.num x0.den x1.den x2.den:Int):Rat)=(((x0.den:Int):Rat)*((x1.den:Int):Rat)*((x2.den:Int):Rat))*(- gg (wy h0) (wy h1) (wy h2) x0 x1 x2):=by
 unfold DN gg;rw[bO,bO,bO];simp only[K3,Yi];rw[show((0:Int):Rat)=0 from rfl,l9 x0,l9 x1,l9 x2];grind
def pW{i j l:H3}{d f g:Rat}(h:0 < - gg (wy i) (wy j) (wy l) d f g):∃p,Dy i j l d f g=some p:=by
 have e:=pV (h0:=i) (h1:=j) (h2:=l) (x0:=d) (x1:=f) (x2:=g);have c:=Zq (Zq (fC d) (fC f)) (fC g);have:0<DN i j l d.num f.num g.num d.den f.den g.den:=by
  rw[<-Yb,e];exact Zq c h
 unfold Dy;rw[if_pos this];exact⟨_,rfl⟩
def jO{i j l:H3}{d f g:Rat}{p:Int×Int}(h:Dy i j l d f g=some p):0<p.2/\0 < - gg (wy i) (wy j) (wy l) d f g /\
  (p.1:Rat)*(- gg (wy i) (wy j) (wy l) d f g)=(p.2:Rat)*(- gg (wy i) (wy j) (wy l) (i.2.2:Rat) (j.2.2:Rat) (l.2.2:Rat)):=by
 unfold Dy at h;split at h
 ·next z=>
  cases h;have e:=pV (h0:=i) (h1:=j) (h2:=l) (x0:=d) (x1:=f) (x2:=g);have c:=Zq (Zq (fC d) (fC f)) (fC g);refine⟨z,?_,?_⟩
  ·have m:(0:Rat)<((DN i j l d.num f.num g.num d.den f.den g.den:Int):Rat):=by
    rw[show(0:Rat)=((0:Int):Rat) from rfl,Yb];exact z
   rw[e] at m;generalize ((d.den:Int):Rat)*((f.den:Int):Rat)*((g.den:Int):Rat)=A at *;generalize-gg (wy i) (wy j) (wy l) d f g=B at *
   by_cases q:0<B
   ·exact q
   ·have:=Zp (Z5 c) (show 0 <= -B by grind)
    grind
  ·show((Ey i j l d.den f.den g.den:Int):Rat)*_=((DN i j l d.num f.num g.num d.den f.den g.den:Int):Rat)*_;rw[e,xk];grind
 ·cases h
def CT(h:Nat->H3)(x:Nat->Rat)(n:Nat)(J:Nat->Nat)(i:Nat):Option (Int×Int):=Dy (h (J (pv n i))) (h (J i)) (h (J (nx n i))) (x (J (pv n i))) (x (J i)) (x (J (nx n i)))
def ear(d:Nat->Option (Int×Int)):Nat->Option Nat
 |0=>none
 |k+1=>match d k with
  |none=>ear d k
  |some q=>match ear d k with
   |none=>some k
   |some i=>match d i with
    |none=>some i
    |some p=>some (if q.1*p.2<p.1*q.2 then k else i)
def xl{d:Nat->Option (Int×Int)}{k:Nat}{f:Option Nat}(h:DU d k f)(q:d k=none):DU d (k+1) f:=by
 cases f with
 |none=>
  intro i n;rcases Yk i k with c|c
  ·exact h i c
  ·have:i=k:=by omega
   subst this;exact q
 |some i=>
  obtain⟨o,g,l,m⟩:=h
  refine⟨by omega,g,l,λj r p e=>?_⟩
  rcases Yk j k with c|c
  ·exact m j r c e
  ·have:j=k:=by omega
   subst this;rw[q] at e;cases e
def xm{f:Nat->Option (Int×Int)}{k:Nat}{q:Int×Int}(h:DU f k none)(e:f k=some q):DU f (k+1) (some k):=
 ⟨Ww _,q,e,λi r g d=>by
  rcases Yk i k with c|c
  ·rw[h i c] at d;cases d
  ·have:i=k:=by omega
   subst this;rw[e] at d;cases d;exact Gi _⟩
theorem ma{d:Nat->Option (Int×Int)}(g:∀i q,d i=some q->0<q.2):∀k,DU d k (ear d k)
 |0=>λi l=>by omega
 |k+1=>by
  have f:=ma g k;unfold ear;cases e:d k with
  |none=>exact xl f e
  |some q=>
   simp only
   cases h:ear d k with
   |none=>rw[h] at f;exact xm f e
   |some i=>
    rw[h] at f;obtain⟨p,j⟩:∃p,d i=some p:=by obtain⟨_,p,z,_⟩:=f;exact⟨p,z⟩
    simp only[j];exact xh g f j e
def fac(p:Int×Int):Rat:=(p.1:Rat)*(p.2:Rat)⁻¹
def md{p:Int×Int}(h:0<p.2):fac p*(p.2:Rat)=(p.1:Rat):=by
 have:(p.2:Rat)≠0:=λz=>by
  have:=Qi.mp z
  omega
 unfold fac;rw[Uj,Vx _ (p.2:Rat),Qp _ this];grind
section
variable{h:Nat->H3}{x:Nat->Rat}{N:Nat}
structure Lst(h:Nat->H3)(x:Nat->Rat)(N:Nat)(n:Nat)(J:Nat->Nat)(t:Rat):Prop where
 ok:Ok (λi=>wy (h (J i))) (λi=>((h (J i)).2.2:Rat)) (λi=>x (J i)) n t
 mono:∀i k,i<k->k<n->J i<J k
 lt:∀i,i<n->J i<N
 span:Span (λi=>wy (h (J i))) n
 off:Off (λi=>wy (h (J i))) (λi=>((h (J i)).2.2:Rat)) n
 back:∀s y,t<=s->(∀i,i<n->((h (J i)).2.2:Rat)-s*x (J i)<=xr (wy (h (J i))) y)->∀j,j<N->((h j).2.2:Rat)-s*x j<=xr (wy (h j)) y
structure Nxt(h:Nat->H3)(x:Nat->Rat)(N n:Nat)(J:Nat->Nat)(t:Rat)(k:Nat)(p:Int×Int):Prop where
 ear:ear (CT h x n J) n=some k
 lt:k<n
 cl:CT h x n J k=some p
 pos:0<p.2
 bot:0<tp (λi=>wy (h (J i))) (λi=>x (J i)) n k
 top:fac p*tp (λi=>wy (h (J i))) (λi=>x (J i)) n k=tp (λi=>wy (h (J i))) (λi=>((h (J i)).2.2:Rat)) n k
 le:t<=fac p
 ok:Ok (λi=>wy (h (J i))) (λi=>((h (J i)).2.2:Rat)) (λi=>x (J i)) n (fac p)
 nul:gi (λi=>wy (h (J i))) (λi=>((h (J i)).2.2:Rat)) (λi=>x (J i)) n (fac p) k=0
def Lst.next{n:Nat}{J:Nat->Nat}{t:Rat}(L:Lst h x N n J t){v u:V}(M:v≠u)(O:∀j,j<N->x j<=xr (wy (h j)) v)(P:∀j,j<N->x j<=xr (wy (h j)) u):∃k p,Nxt h x N n J t k p:=by
 obtain⟨w,l,Q⟩:=L.ok.some L.span M (λi d=>O _ (L.lt i d)) (λi d=>P _ (L.lt i d))
 have R:∀i q,CT h x n J i=some q->0<q.2:=λi q e=>(jO e).1
 have B:=ma R n;obtain⟨S,f⟩:=pW Q
 have f:CT h x n J w=some S:=f;cases e:ear (CT h x n J) n with
 |none=>rw[e] at B;rw[B w l] at f;cases f
 |some k=>
  rw[e] at B;obtain⟨z,p,D,mn⟩:=B
  obtain⟨o,E,r⟩:=jO D
  have F:=md o;have T:(0:Rat)<(p.2:Rat):=by rw[show(0:Rat)=((0:Int):Rat) from rfl,Yb];exact o
  have G:fac p*tp (λi=>wy (h (J i))) (λi=>x (J i)) n k=tp (λi=>wy (h (J i))) (λi=>((h (J i)).2.2:Rat)) n k:=by
   have r:(p.1:Rat)*tp (λi=>wy (h (J i))) (λi=>x (J i)) n k=(p.2:Rat)*tp (λi=>wy (h (J i))) (λi=>((h (J i)).2.2:Rat)) n k:=r;generalize tp (λi=>wy (h (J i))) (λi=>x (J i)) n k=A at *;generalize tp (λi=>wy (h (J i))) (λi=>((h (J i)).2.2:Rat)) n k=C at *;rw[<-F] at r;have:(p.2:Rat)*(fac p*A-C)=0:=by grind
   have:=(Ws.mp this).resolve_left (by grind)
   grind
  obtain⟨U,W,X⟩:=L.ok.until z E G (λi d H=>by
   obtain⟨q,g⟩:=pW H
   have g:CT h x n J i=some q:=g;have m:=mn i q d g;obtain⟨I,r2,K⟩:=jO g
   have fq:=md I;have Y:(0:Rat)<(q.2:Rat):=by rw[show(0:Rat)=((0:Int):Rat) from rfl,Yb];exact I
   have K:(q.1:Rat)*tp (λi=>wy (h (J i))) (λi=>x (J i)) n i=(q.2:Rat)*tp (λi=>wy (h (J i))) (λi=>((h (J i)).2.2:Rat)) n i:=K;have Z:(p.1:Rat)*(q.2:Rat)<=(q.1:Rat)*(p.2:Rat):=by
    rw[<-Yi,<-Yi,Jq];exact m
   have s:0<tp (λi=>wy (h (J i))) (λi=>x (J i)) n i:=H;generalize tp (λi=>wy (h (J i))) (λi=>x (J i)) n i=A at *;generalize tp (λi=>wy (h (J i))) (λi=>((h (J i)).2.2:Rat)) n i=C at *;rw[<-F] at Z;have a1:0<=(q.1:Rat)-fac p*(q.2:Rat):=cC T (by grind);have a2:=Zp a1 (Z5 s);have a3:0<=(C-fac p*A)*(q.2:Rat):=by grind
   have:=cC Y a3
   grind)
  exact⟨k,p,e,z,D,o,E,G,U,⟨L.ok.three,L.ok.srt,L.ok.bend,W⟩,X⟩
theorem Nxt.drop{n:Nat}{J:Nat->Nat}{t:Rat}{k:Nat}{p:Int×Int}(X:Nxt h x N n J t k p)(L:Lst h x N n J t)(g:CJ (h (J (nx n k))) (h (J (pv n k)))<0):Lst h x N (n-1) (λi=>J (er k i)) (fac p)/\4<=n:=by
 have d:xr (wy (h (J (nx n k)))) (wy (h (J (pv n k))))<0:=by
  rw[bO,show(0:Rat)=((0:Int):Rat) from rfl,Yb];exact g
 obtain⟨l,m⟩:=L.ok.drop X.lt X.ok.lens X.nul d
 refine⟨⟨l,λi j e o=>L.mono _ _ (pC e) (bQ X.lt o),λi q=>L.lt _ (bQ X.lt q),L.span.drop L.ok X.lt d,L.off.drop X.lt,λs y f r=>?_⟩,m⟩
 refine L.back s y (Kn X.le f) ?_;exact L.ok.back X.lt X.bot X.top f d r
structure FinS(h:Nat->H3)(x:Nat->Rat)(N n:Nat)(J:Nat->Nat)(k:Nat)(p:Int×Int):Prop where
 lt:k<n
 mono:∀i k,i<k->k<n->J i<J k
 le:∀i,i<n->J i<N
 three:3<=n
 cl:CT h x n J k=some p
 bot:0<p.2
 fac:0<fac p
 keep:∀j,j<N->((h j).2.2:Rat)-DL.fac p*x j<=xr (wy (h j)) (mt (wy (h (J (pv n k)))) (wy (h (J k))) (((h (J (pv n k))).2.2:Rat)-DL.fac p*x (J (pv n k))) (((h (J k)).2.2:Rat)-DL.fac p*x (J k)))
 w0:0<CJ (h (J k)) (h (J (nx n k)))
 w1:0<=CJ (h (J (nx n k))) (h (J (pv n k)))
 w2:0<CJ (h (J (pv n k))) (h (J k))
 sum:((CJ (h (J k)) (h (J (nx n k))):Int):Rat)*(((h (J (pv n k))).2.2:Rat)-DL.fac p*x (J (pv n k)))+((CJ (h (J (nx n k))) (h (J (pv n k))):Int):Rat)*(((h (J k)).2.2:Rat)-DL.fac p*x (J k))+((CJ (h (J (pv n k))) (h (J k)):Int):Rat)*(((h (J (nx n k))).2.2:Rat)-DL.fac p*x (J (nx n k)))=0
def Nxt.finS{n:Nat}{J:Nat->Nat}{t:Rat}{k:Nat}{p:Int×Int}(X:Nxt h x N n J t k p)(L:Lst h x N n J t)(f:0<=CJ (h (J (nx n k))) (h (J (pv n k)))):FinS h x N n J k p:=by
 have d:0<=xr (wy (h (J (nx n k)))) (wy (h (J (pv n k)))):=by
  rw[bO,show(0:Rat)=((0:Int):Rat) from rfl,Jq];exact f
 have pos:∀{a b:H3},0<xr (wy a) (wy b)->0<CJ a b:=λ{a b} z=>by
  rw[bO,show(0:Rat)=((0:Int):Rat) from rfl,Yb] at z;exact z
 have j:=L.off.pos X.ok X.lt d;refine⟨X.lt,L.mono,L.lt,L.ok.three,X.cl,X.pos,?_,?_,pos (L.ok.bend k X.lt),f,pos (L.ok.bendp X.lt),?_⟩
 ·have e:=X.top;have b:=X.bot;generalize tp (λi=>wy (h (J i))) (λi=>x (J i)) n k=A at *;generalize tp (λi=>wy (h (J i))) (λi=>((h (J i)).2.2:Rat)) n k=C at *;by_cases z:0<DL.fac p
  ·exact z
  ·have:=Zp (show 0 <= - DL.fac p by grind) (Z5 b)
   grind
 ·exact L.back (DL.fac p) _ X.le (λi g=>X.ok.keeps k i X.lt g)
 ·have z:=X.nul;unfold gi gg ee at z;rw[bO,bO,bO] at z;exact z
end
open Mg Fi Sf
def hS(l:List V)(i:Nat):H3:=cu (CD l i) (CD l (i+1))
def xn(l:List V):(cB l).length=l.length:=by unfold cB;rw[Zc,gM]
def xo{l:List V}{i:Nat}(d:i<l.length):(cB l)[i]? = some (hS l i):=by
 have e:=congrArg (λz=>z[0]?) (wC d);simp only[Uh,Nat.add_zero,Qg] at e;exact e
def EE(r:List V)(h:H3):Rat:=0-mx (-h.1) (-h.2.1) (lv (-h.1) (-h.2.1) (r.headD (0,0))) r.tail
def gT{h:H3}{q:V}:lv (-h.1) (-h.2.1) q = - xr (wy h) q:=by
 unfold lv;rw[fB,Rat.intCast_neg,Rat.intCast_neg];grind
def cv{r:List V}(f:0<r.length)(h:H3):(∀q∈r,EE r h<=xr (wy h) q)/\∃q∈r,EE r h=xr (wy h) q:=by
 cases r with
 |nil=>exact absurd f (Wm 0)
 |cons q r=>
  unfold EE;simp only[List.headD_cons,List.tail_cons];obtain⟨g,i,j⟩:=Fe (-h.1) (-h.2.1) r (lv (-h.1) (-h.2.1) q)
  refine⟨λz d=>?_,?_⟩
  ·rcases Zf.mp d with e|e
   ·rw[e];rw[gT] at g;rw[gT];grind
   ·have:=i z e;rw[gT] at this;grind
  ·rcases j with e|⟨z,d,e⟩
   ·exact⟨q,.head _,by rw[e,gT];grind⟩
   ·exact⟨z,.tail _ d,by rw[e,gT];grind⟩
def gU{l:List V}(h:IsShp l)(i:Nat):∃k:Rat,0<k/\wy (hS l i)=sm k (ed (CD l) i)/\(((hS l i).2.2:Int):Rat)=xr (wy (hS l i)) (CD l i):=by
 have f:=h.three;have j:=gR (nodup h) vB i;obtain⟨k,m,d,e,g⟩:=(v8 (a:=(CD l i).2-(CD l (i+1)).2) (b:=(CD l (i+1)).1-(CD l i).1) (c:=((CD l i).2-(CD l (i+1)).2)*(CD l i).1+((CD l (i+1)).1-(CD l i).1)*(CD l i).2) (pe j)).scale
 have d:(((hS l i).1:Int):Rat)=_:=d;have e:(((hS l i).2.1:Int):Rat)=_:=e;have g:(((hS l i).2.2:Int):Rat)=_:=g;refine⟨k,m,?_,?_⟩
 ·unfold wy sm ed mn;rw[d,e];exact Yt (by dsimp only) (by dsimp only;grind)
 ·rw[fB,d,e,g];grind
def gW{l:List V}(d:IsShp l):Sds (λi=>wy (hS l i)) (CD l) (λi=>((hS l i).2.2:Rat)) l.length:=
 ⟨lR d (nodup d),λi _=>by obtain⟨k,f,e,_⟩:=gU d i;exact⟨k,f,e⟩,λi _=>by obtain⟨k,f,_,e⟩:=gU d i;exact e⟩
def jP{l:List V}(d:IsShp l)(x:Nat->Rat):Lst (hS l) x l.length l.length (λi=>i) 0:=
 ⟨(gW d).ok,λ_ _ h _=>h,λ_ h=>h,(gW d).span,(gW d).off,λ_ _ _ h=>h⟩
structure Hb(h:H3):Prop where
 a:h.1.natAbs<2^90
 b:h.2.1.natAbs<2^90
 c:h.2.2.natAbs<2^150
def Hb.hb{h:H3}(b:Hb h){n:Nat}(d:150<=n):HB n h:=⟨Zg b.a (Bm vB),Zg b.b (Bm vB),Zg b.c (Bm d)⟩
def jQ{t g:Int}{n:Nat}(f:g∣t)(h:t.natAbs<2^n):(t.fdiv g).natAbs<2^n:=by
 obtain⟨x,d⟩:=f
 rcases Gq (g=0) with z|z
 ·rw[z,Int.fdiv_zero];exact Nat.two_pow_pos _
 ·rw[d,Z6 _ z];rcases Gq (x=0) with e|e
  ·rw[e];exact Nat.two_pow_pos _
  ·refine Wg ?_ h;exact d8 ⟨g,by rw[d,Q9]⟩ (by rw[d];exact Ys z e)
def Sy.sub{a b c d k:Nat}{x y:Rat}(e:Sy a b x)(f:Sy c d y)(g:a+d<=k)(h:c+b<=k):Sy (k+1) (b+d) (x-y):=by
 rw[Kd];exact e.add f.neg g h
def II{a b c:Rat}(d:Sy 66 6 a)(e:Sy 66 6 b)(f:Sy 138 18 c):Hb (t3 a b c):=by
 refine⟨?_,?_,?_⟩
 ·show(a.num*((b.den:Int)*(c.den:Int))).natAbs<2^(66+(6+18));rw[Z9,Z9];exact bu d.t (bu e.b f.b)
 ·show(b.num*((a.den:Int)*(c.den:Int))).natAbs<2^(66+(6+18));rw[Z9,Z9];exact bu e.t (bu d.b f.b)
 ·show(c.num*((a.den:Int)*(b.den:Int))).natAbs<2^(138+(6+6));rw[Z9,Z9];exact bu f.t (bu d.b e.b)
def xp{s e:V}(d:Sy 62 3 s.1/\Sy 62 3 s.2)(g:Sy 62 3 e.1/\Sy 62 3 e.2):Hb (cu s e):=by
 have h:Sy 66 6 (s.2-e.2):=d.2.sub g.2 (k:=65) vA vA;have i:Sy 66 6 (e.1-s.1):=g.1.sub d.1 (k:=65) vA vA;have j:Sy 138 18 ((s.2-e.2)*s.1+(e.1-s.1)*s.2):=(h.mul d.1).add (i.mul d.2) (k:=137) vA vA;have f:=II h i j;obtain⟨l,m,n⟩:=ju (t3 (s.2-e.2) (e.1-s.1) ((s.2-e.2)*s.1+(e.1-s.1)*s.2))
 exact⟨jQ l f.a,jQ m f.b,jQ n f.c⟩
def JW{l:List V}(d:0<l.length)(e:SyL 62 3 l)(i:Nat):Hb (hS l i):=xp (e _ (Bs d _)) (e _ (Bs d _))
def Du{i:Int}{n:Nat}(h:i.natAbs<2^n):Sy n 1 (i:Rat):=⟨by rw[Rat.num_intCast];exact h,by rw[Rat.den_intCast];decide⟩
def Ii{h:H3}{q:V}(b:Hb h)(d:Sy 80 12 q.1/\Sy 80 12 q.2):Sy 184 26 (xr (wy h) q):=by
 rw[fB];exact((Du b.a).mul d.1).add ((Du b.b).mul d.2) (k:=183) vA vA
def GS{r:List V}{h:H3}(d:0<r.length)(b:Hb h)(f:SyL 80 12 r):Sy 184 26 (EE r h):=by
 obtain⟨_,q,g,e⟩:=cv d h
 rw[e];exact Ii b (f q g)
def bY{h k:H3}(a:Hb h)(b:Hb k):(CJ h k).natAbs<2^181:=by
 unfold CJ;have d:(h.1*k.2.1).natAbs<2^180:=by rw[Z9];exact bu a.a b.b
 have f:(h.2.1*k.1).natAbs<2^180:=by rw[Z9];exact bu a.b b.a
 have e:(2:Nat)^181=2^180+2^180:=by rw[Vz,Nat.mul_two]
 rw[e];generalize (2:Nat)^180=M at *;omega
def pX{a b c:Int}{n:Nat}(d:a.natAbs<2^n)(f:b.natAbs<2^n)(g:c.natAbs<2^n):(0-a-b-c).natAbs<2^(n+2):=by
 have e:(2:Nat)^(n+2)=2^n*4:=by rw[Nat.pow_add]
 rw[e];generalize (2:Nat)^n=M at *;omega
def pY{w z A:H3}{r s u:Rat}{p:Int×Int}(f:Hb w)(g:Hb z)(i:Hb A)(l:Sz 2000 r)(o:Sz 2000 s)(q:Sz 2000 u)(h:Dy w z A r s u=some p):p.1.natAbs<2^6400/\p.2.natAbs<2^6400:=by
 unfold Dy at h;split at h
 ·cases h;have d:∀{a b c:Int}{m n k:Nat},a.natAbs<2^m->b.natAbs<2^n->c.natAbs<2^k->(a*b*c).natAbs<2^(m+n+k):=λB C D=>by
   rw[Z9,Z9];exact bu (bu B C) D
  have j:∀x:Rat,Sz 2000 x->((x.den:Int)).natAbs<2^2000:=λx v=>v.b
  have c:(1*(r.den:Int)*(s.den:Int)*(u.den:Int)).natAbs<2^(2000+2000+2000):=by
   rw[Gh];exact d (j _ l) (j _ o) (j _ q)
  have e:∀x y:Rat,Sz 2000 x->Sz 2000 y->((x.den:Int)*(y.den:Int)).natAbs<2^(2000+2000):=λx y v E=>by
   rw[Z9];exact bu (j _ v) (j _ E)
  refine⟨Zg (pX (n:=181+150+(2000+2000+2000)) ?_ ?_ ?_) (Bm vA),Zg (pX (n:=181+2000+(2000+2000)) ?_ ?_ ?_) (Bm vA)⟩
  ·exact d (bY g i) f.c c
  ·exact d (bY i f) g.c c
  ·exact d (bY f g) i.c c
  ·exact d (bY g i) l.t (e _ _ o q)
  ·exact d (bY i f) o.t (e _ _ l q)
  ·exact d (bY f g) q.t (e _ _ l o)
 ·cases h
def GR{r:List V}{h:H3}(g:0<r.length)(b:Hb h)(d:SyL 600 600 r):Sz 2000 (EE r h):=by
 obtain⟨_,q,f,e⟩:=cv g h
 rw[e,fB];exact(((Du b.a).mul (d q f).1).add ((Du b.b).mul (d q f).2) (k:=1291) vA vA).sz vA vA
open Mg Fi Sf
def Ed(e:Int×Int):List Int:=[e.1,e.2]
def GN(k:List Int):Int×Int:=(k.getD 0 0,k.getD 1 0)
def xq{a b c d:Int}(h:ltK [a,b] [c,d]=true)(e:a≠c):a<c:=by
 unfold ltK at h;simp only[U6,Zl,decide_eq_true_eq,beq_iff_eq] at h;omega
def pZ{L:List (Int×Int)}(p:L.Nodup)(r:∀e∈L,∀i∈L,e.1=i.1->e=i):∃S:List (Int×Int),EY (L.map Ed)=S.map Ed/\S.Perm L/\S.Pairwise (λe i=>e.1<i.1):=by
 have s:∀x∈L.map Ed,D6 x=true:=λx f=>by
  obtain⟨e,_,q⟩:=Zt.mp f
  rw[<-q];rfl
 have m:=nG s;have l:∀x,x∈EY (L.map Ed)↔x∈L.map Ed:=λx=>ssK_mem
 generalize EY (L.map Ed)=j at *;have g:∀x∈j,Ed (GN x)=x/\GN x∈L:=λx f=>by
  obtain⟨e,t,q⟩:=Zt.mp ((l x).mp f)
  rw[<-q];exact⟨rfl,t⟩
 have u:j=(j.map GN).map Ed:=by
  rw[Yg];conv=>lhs;rw[<-List.map_id j]
  exact Y5 λx f=>(g x f).1.symm
 have n:(j.map GN).Pairwise (λe i=>e.1<i.1):=by
  rw[Kf];refine m.imp_of_mem λ{x y} f v d=>?_;obtain⟨w,A⟩:=g x f
  obtain⟨B,C⟩:=g y v
  rw[<-w,<-B] at d;by_cases o:(GN x).1=(GN y).1
  ·have:=r _ A _ C o
   rw[this] at d;unfold Ed ltK at d;simp at d
  ·exact xq d o
 refine⟨j.map GN,u,?_,n⟩
 refine(List.perm_ext_iff_of_nodup (n.imp λ{a b} h z=>?_) p).mpr λe=>?_
 ·rw[z] at h;exact absurd h (Uo _)
 ·constructor
  ·intro h;obtain⟨x,f,q⟩:=Zt.mp h
   rw[<-q];exact(g x f).2
  ·intro h;exact Zt.mpr ⟨Ed e,(l _).mpr (Zt.mpr ⟨e,h,rfl⟩),rfl⟩
def fE{d:Type}{f:d->Int}{l m:List d}(h:l.Perm m):(l.map f).sum=(m.map f).sum:=by
 induction h with
 |nil=>rfl
 |cons _ _ e=>simp only[Zy,Y4,e]
 |swap a b l=>simp only[Zy,Y4];omega
 |trans _ _ a b=>exact a.trans b
def p4{d:Type}{f:d->Rat}{l m:List d}(h:l.Perm m):(l.map f).sum=(m.map f).sum:=by
 induction h with
 |nil=>rfl
 |cons _ _ e=>simp only[Zy,Y4,e]
 |swap a b l=>simp only[Zy,Y4];grind
 |trans _ _ a b=>exact a.trans b
structure Cert(h:Nat->H3)(x:Nat->Rat)(N:Nat)(t:Rat)(S:List (Int×Int)):Prop where
 len:S.length=2\/S.length=3
 ok:∀e∈S,∃j:Nat,e.1=(j:Int)/\j<N/\1<=e.2/\e.2.natAbs<2^181
 srt:S.Pairwise (λe e'=>e.1<e'.1)
 sa:(S.map λe=>e.2*(h e.1.toNat).1).sum=0
 sb:(S.map λe=>e.2*(h e.1.toNat).2.1).sum=0
 sc:(((S.map λe=>e.2*(h e.1.toNat).2.2).sum:Int):Rat)=t*(S.map λe=>(e.2:Rat)*x e.1.toNat).sum
def xt{h:Nat->H3}{x:Nat->Rat}{N n:Nat}{J:Nat->Nat}{k:Nat}{p:Int×Int}(F:FinS h x N n J k p)(u:∀j,Hb (h j)):∃S:List (Int×Int),
  EY (shK (J (pv n k):Nat) (J k:Nat) (J (nx n k):Nat) (CJ (h (J k)) (h (J (nx n k)))) (CJ (h (J (nx n k))) (h (J (pv n k)))) (CJ (h (J (pv n k))) (h (J k)))
   (gc (gc (gc 0 (CJ (h (J k)) (h (J (nx n k))))) (CJ (h (J (nx n k))) (h (J (pv n k))))) (CJ (h (J (pv n k))) (h (J k)))))=S.map Ed/\Cert h x N (fac p) S:=by
 have inj:∀i j,i<n->j<n->i≠j->J i≠J j:=λi j hi hj ne=>by
  rcases Yk i j with z|z
  ·have:=F.mono i j z hj;omega
  ·have:=F.mono j i vB hi;omega
 have B:=F.three;have a0:J (pv n k)≠J k:=inj _ _ (bL F.lt) F.lt (by unfold pv;have:=F.lt;split<;>omega);have a1:J (pv n k)≠J (nx n k):=inj _ _ (bL F.lt) (bM F.lt) (pD B F.lt);have a2:J k≠J (nx n k):=inj _ _ F.lt (bM F.lt) (by unfold nx;have:=F.lt;split<;>omega);have X:=F.le _ (bL F.lt);have l1:=F.le _ F.lt;have l2:=F.le _ (bM F.lt);have w0:=F.w0;have w1:=F.w1;have w2:=F.w2;have sum:=F.sum;have b0:=bY (u (J k)) (u (J (nx n k)));have b1:=bY (u (J (nx n k))) (u (J (pv n k)));have b2:=bY (u (J (pv n k))) (u (J k));have Y:CJ (h (J k)) (h (J (nx n k)))*(h (J (pv n k))).1+CJ (h (J (nx n k))) (h (J (pv n k)))*(h (J k)).1+CJ (h (J (pv n k))) (h (J k))*(h (J (nx n k))).1=0:=by unfold CJ;grind
 have Z:CJ (h (J k)) (h (J (nx n k)))*(h (J (pv n k))).2.1+CJ (h (J (nx n k))) (h (J (pv n k)))*(h (J k)).2.1+CJ (h (J (pv n k))) (h (J k))*(h (J (nx n k))).2.1=0:=by unfold CJ;grind
 generalize CJ (h (J k)) (h (J (nx n k)))=o at *;generalize CJ (h (J (nx n k))) (h (J (pv n k)))=r at *;generalize CJ (h (J (pv n k))) (h (J k))=s at *;generalize J (pv n k)=w at *;generalize J k=G at *;generalize J (nx n k)=A at *;have gp:0<gc (gc (gc 0 o) r) s:=dA vB;have d2:gc (gc (gc 0 o) r) s∣s:=Wd _ _;have H:gc (gc (gc 0 o) r) s∣gc (gc 0 o) r:=Qk _ _;have d1:gc (gc (gc 0 o) r) s∣r:=Wn H (Wd _ _);have d0:gc (gc (gc 0 o) r) s∣o:=Wn H (Wn (Qk _ _) (Wd _ _));generalize gc (gc (gc 0 o) r) s=g at *;have f:∀W:Int,g∣W->W.natAbs<2^181->0<=W->∃v:Int,W.fdiv g=v/\W=g*v/\v.natAbs<2^181/\0<=v:=λW hd u hW=>by
  have hf:=jQ hd u;obtain⟨v,e⟩:=hd
  have C:W.fdiv g=v:=by rw[e];exact Z6 _ vB
  rw[C] at hf;refine⟨v,C,e,hf,?_⟩
  by_cases z:0<=v
  ·exact z
  ·have:=Vo gp (show v<0 by omega)
   omega
 obtain⟨D,f0,P,c0,p0⟩:=f o d0 b0 vB
 obtain⟨v1,f1,I,c1,p1⟩:=f r d1 b1 w1
 obtain⟨E,f2,C,c2,p2⟩:=f s d2 b2 vB
 have K:1<=D:=by
  by_cases z:D=0
  ·rw[z] at P;omega
  ·omega
 have M:1<=E:=by
  by_cases z:E=0
  ·rw[z] at C;omega
  ·omega
 have l:∀z:Int,g*z=0->z=0:=λz Q=>(Vd.mp Q).resolve_left vB
 have gr:(g:Rat)≠0:=λz=>by have:=Qi.mp z;omega
 have O:∀z:Rat,(g:Rat)*z=0->z=0:=λz Q=>(Ws.mp Q).resolve_left gr
 have sa:D*(h w).1+v1*(h G).1+E*(h A).1=0:=l _ (by rw[P,I,C] at Y;grind);have sb:D*(h w).2.1+v1*(h G).2.1+E*(h A).2.1=0:=l _ (by rw[P,I,C] at Z;grind);have sc:(D:Rat)*(((h w).2.2:Rat)-fac p*x w)+(v1:Rat)*(((h G).2.2:Rat)-fac p*x G)+(E:Rat)*(((h A).2.2:Rat)-fac p*x A)=0:=O _ (by
  rw[P,I,C] at sum;simp only[Yi] at sum;grind)
 clear sum Y Z;unfold shK Ls;rw[if_neg (show ¬o=0 by omega),if_neg (show ¬s=0 by omega),f0,f1,f2];by_cases z:r=0
 ·rw[if_pos z];have R:v1=0:=l _ (by rw[<-I];exact z);obtain⟨S,T,d,U⟩:=pZ (L:=[((w:Int),D),((A:Int),E)]) (by simp;omega) (by
   intro e t e' m q;simp only[Zf,Zk,or_false] at t m;rcases t with rfl|rfl<;>rcases m with rfl|rfl
   ·rfl
   ·simp only at q;omega
   ·simp only at q;omega
   ·rfl)
  refine⟨S,T,Or.inl (by rw[d.length_eq];rfl),λe t=>?_,U,?_,?_,?_⟩
  ·have:=d.mem_iff.mp t
   simp only[Zf,Zk,or_false] at this;rcases this with rfl|rfl
   ·exact⟨w,rfl,X,K,c0⟩
   ·exact⟨A,rfl,l2,M,c2⟩
  ·rw[fE d];simp only[Zy,Wp,Y4,Q7,Zz];rw[R] at sa;omega
  ·rw[fE d];simp only[Zy,Wp,Y4,Q7,Zz];rw[R] at sb;omega
  ·rw[fE d,p4 d];simp only[Zy,Wp,Y4,Q7,Zz,K4,Yi];rw[R] at sc;rw[show((0:Int):Rat)=0 from rfl] at sc |-;grind
 ·rw[if_neg z];have V:1<=v1:=by
   by_cases y:v1=0
   ·rw[y] at I;omega
   ·omega
  obtain⟨S,T,d,U⟩:=pZ (L:=[((w:Int),D),((G:Int),v1),((A:Int),E)]) (by simp;omega) (by
   intro e t e' m q;simp only[Zf,Zk,or_false] at t m;rcases t with rfl|rfl|rfl<;>rcases m with rfl|rfl|rfl<;>first|rfl|(simp only at q;omega))
  refine⟨S,T,Or.inr (by rw[d.length_eq];rfl),λe t=>?_,U,?_,?_,?_⟩
  ·have:=d.mem_iff.mp t
   simp only[Zf,Zk,or_false] at this;rcases this with rfl|rfl|rfl
   ·exact⟨w,rfl,X,K,c0⟩
   ·exact⟨G,rfl,l1,V,c1⟩
   ·exact⟨A,rfl,l2,M,c2⟩
  ·rw[fE d];simp only[Zy,Wp,Y4,Q7,Zz];omega
  ·rw[fE d];simp only[Zy,Wp,Y4,Q7,Zz];omega
  ·rw[fE d,p4 d];simp only[Zy,Wp,Y4,Q7,Zz,K4,Yi];rw[show((0:Int):Rat)=0 from rfl];grind
open Mg Fi Sf
open Mg Fi Sf PySem
section
variable{α:Type}{f:Nat->α}
def dM{n i:Nat}(h:i<n):((List.range n).map f)[i]? = some (f i):=by rw[Zm,Ua h];rfl
def p5{n k:Nat}(e:k<n):((List.range n).map f).eraseIdx k=(List.range (n-1)).map λi=>f (er k i):=by
 apply Qv
 intro i;rw[List.getElem?_eraseIdx];by_cases d:i<n-1
 ·rw[dM d];unfold er;split
  ·rw[dM vB]
  ·rw[dM vB]
 ·rw[Y6 (l:=(List.range (n-1)).map _) (by rw[Zc,Z3];omega)];split
  ·next z=>omega
  ·rw[Y6 (by rw[Zc,Z3];omega)]
def dq{n:Nat}{i:Int}{j:Nat}(d:j<n)(h:i=(j:Int)\/i=(j:Int)-n):L2.atI ((List.range n).map f) i=some (f j):=by
 have e:L2.ixN ((List.range n).map f).length i=some j:=by
  rw[Zc,Z3];unfold L2.ixN;rcases h with h|h
  ·rw[if_pos vB,if_pos vB];congr 1;omega
  ·rw[if_neg vB,if_pos vB];congr 1;omega
 unfold L2.atI;rw[e,Zv,dM d]
end
def KG(p:Nat)(h:H3)(x:Rat)(c:D):List D:=[.int (p:Int),hD h,fr x,c]
def C6(A:Nat->Addr)(h:Nat->H3)(x:Nat->Rat)(n:Nat)(J:Nat->Nat)(c:Nat->D):List (Addr×List D):=(List.range n).map λi=>(A (J i),KG (J i) (h (J i)) (x (J i)) (c i))
def CW(A:Nat->Addr)(h:Nat->H3)(x:Nat->Rat)(n:Nat)(J:Nat->Nat):List (Addr×List D):=C6 A h x n J λi=>C4 (CT h x n J i)
section
variable{A:Nat->Addr}{h:Nat->H3}{x:Nat->Rat}{n:Nat}{J:Nat->Nat}{c:Nat->D}
def xu:(C6 A h x n J c).length=n:=by unfold C6;rw[Zc,Z3]
def eu:Dg (C6 A h x n J c)=(List.range n).map λi=>bD (A (J i)) (J i:Int) (h (J i)) (x (J i)) (c i):=by
 unfold Dg C6;rw[Yg];rfl
def jR{i:Nat}{d:D}(g:i<n)(inj:∀i j,i<n->j<n->A (J i)=A (J j)->i=j):setC (C6 A h x n J c) (A (J i)) d=C6 A h x n J λj=>if j=i then d else c j:=by
 unfold setC C6;rw[Yg];refine Y5 λj f=>?_;have f:=Ym.mp f;show(A (J j),if A (J j)=A (J i) then(KG (J j) (h (J j)) (x (J j)) (c j)).set 3 d else KG (J j) (h (J j)) (x (J j)) (c j))=(A (J j),KG (J j) (h (J j)) (x (J j)) (if j=i then d else c j));by_cases e:j=i
 ·subst e;rw[if_pos rfl,if_pos rfl];rfl
 ·rw[if_neg (λz=>e (inj j i f g z)),if_neg e]
def jS{i:Nat}(d:i<n):A (J i)∈(C6 A h x n J c).map (·.1):=by
 unfold C6;rw[Yg];exact Zt.mpr ⟨i,Ym.mpr d,rfl⟩
def p6{d:Nat->D}(e:∀i,i<n->c i=d i):C6 A h x n J c=C6 A h x n J d:=by
 unfold C6;refine Y5 λj f=>?_;rw[e j (Ym.mp f)]
def l1(n k:Nat):Nat:=if k=0 then n-2 else k-1
def l2(n k:Nat):Nat:=if k=n-1 then 0 else k
def xv{k i:Nat}(d:3<=n)(e:k<n)(f:i<n-1)(n1:i≠l1 n k)(n2:i≠l2 n k):CT h x (n-1) (λi=>J (er k i)) i=CT h x n J (er k i):=by
 unfold CT;have g:=lU d e f;have j:=Fj d e f;have l:nx n (er k i)≠k:=by
  unfold l1 at n1;unfold nx er;split at n1<;>(repeat' split)<;>omega
 have m:pv n (er k i)≠k:=by
  unfold l2 at n2;unfold pv er;split at n2<;>(repeat' split)<;>omega
 rw[if_neg l] at g;rw[if_neg m] at j;dsimp only;rw[g,j]
def xw{k:Nat}(l:3<=n)(f:k<n)(inj:∀i j,i<n->j<n->A (J i)=A (J j)->i=j):
  setC (setC ((CW A h x n J).eraseIdx k) (A (J (er k (l1 n k)))) (C4 (CT h x (n-1) (λi=>J (er k i)) (l1 n k)))) (A (J (er k (l2 n k)))) (C4 (CT h x (n-1) (λi=>J (er k i)) (l2 n k)))=CW A h x (n-1) (λi=>J (er k i)):=by
 have m:(CW A h x n J).eraseIdx k=C6 A h x (n-1) (λi=>J (er k i)) λi=>C4 (CT h x n J (er k i)):=by
  unfold CW C6;rw[p5 f]
 have o:l1 n k<n-1:=by unfold l1;split<;>omega
 have p:l2 n k<n-1:=by unfold l2;split<;>omega
 have d:∀i j,i<n-1->j<n-1->A (J (er k i))=A (J (er k j))->i=j:=λi j g q e=>by
  have:=inj _ _ (bQ f g) (bQ f q) e
  unfold er at this;split at this<;>split at this<;>omega
 rw[m,jR (J:=λi=>J (er k i)) o d,jR (J:=λi=>J (er k i)) p d];refine p6 λi g=>?_;split
 ·next z=>rw[z]
 ·next z=>
  split
  ·next y=>rw[y]
  ·next y=>rw[xv l f g y z]
end
open Sf
open Mg Fi PySem
section
variable{Γ:Nat->∅}
def Ie(T:D)(a:Addr)(d:D):Prop:=∃(m l n:Addr) (o p q:Int) (e f g:H3) (h i j:Rat) (r s t:D),(Hb e/\Hb f/\Hb g)/\(Sz 2000 h/\Sz 2000 i/\Sz 2000 j)/\T=.tup [bD m o e h r,bD l p f i s,bD n q g j t]/\a=l/\d=C4 (Dy e f g h i j)
def EK{x:Rat}(z:Sz 2000 x):((x.den:Int)).natAbs<2^2000:=z.b
def Lu{x:Rat}:(x.den:Int)≠0:=by have:=x.den_nz;omega
def DQ{a b:Int}{m n:Nat}(d:a.natAbs<2^m)(e:b.natAbs<2^n):(a*b).natAbs<2^(m+n):=by rw[Z9];exact bu d e
def GA(E:Γ 93=cF):∀T a d,Ie T a d->∃h l,exs Γ o_set_closing.1 ([~~~T]++List.replicate 6 none)=some (.nx h)/\(view h)[6]? = some (some (.obj a l))/\ev Γ o_set_closing.2.1 (view h)=some (.val d):=by
 rintro T a d ⟨J,U,K,L,F,M,m,i,n,f,e,g,N,G,O,⟨o,p,q⟩,⟨s,u,v⟩,rfl,rfl,rfl⟩
 have P:=pQ (a0:=J) (a1:=a) (a2:=K) (p0:=L) (p1:=F) (p2:=M) (x0:=f) (x1:=e) (x2:=g) (c0:=N) (c1:=G) (c2:=O) (o.hb vA) (p.hb vA) (q.hb vA);have w:=bY p q;have A:=bY q o;have B:=bY o p;have j:=EK s;have r:=EK u;have C:=EK v;have D:(1:Int).natAbs<2^1:=by decide
 have H:=DQ (DQ (DQ D j) r) C;have Q:(1*(f.den:Int)*(e.den:Int)*(g.den:Int)).fdiv (f.den:Int)=(e.den:Int)*(g.den:Int):=by
  rw[show(1*(f.den:Int)*(e.den:Int)*(g.den:Int))=(f.den:Int)*((e.den:Int)*(g.den:Int)) by grind];exact Z6 _ Lu
 have R:(1*(f.den:Int)*(e.den:Int)*(g.den:Int)).fdiv (e.den:Int)=(f.den:Int)*(g.den:Int):=by
  rw[show(1*(f.den:Int)*(e.den:Int)*(g.den:Int))=(e.den:Int)*((f.den:Int)*(g.den:Int)) by grind];exact Z6 _ Lu
 have S:(1*(f.den:Int)*(e.den:Int)*(g.den:Int)).fdiv (g.den:Int)=(f.den:Int)*(e.den:Int):=by
  rw[show(1*(f.den:Int)*(e.den:Int)*(g.den:Int))=(g.den:Int)*((f.den:Int)*(e.den:Int)) by grind];exact Z6 _ Lu
 have I:∀{x:Rat},Sz 2000 x->br (x.den:Int)=true:=λz=>cX Lu (EK z) vA
 have run:=xi (Γ:=Γ) (a0:=J) (a1:=a) (a2:=K) (p0:=.int L) (p1:=.int F) (p2:=.int M) (cl0:=N) (cl1:=G) (cl2:=O) (s0:=m.1) (t0:=m.2.1) (u0:=m.2.2) (s1:=i.1) (t1:=i.2.1) (u1:=i.2.2) (s2:=n.1) (t2:=n.2.1) (u2:=n.2.2)
  (n0:=f.num) (n1:=e.num) (n2:=g.num) (d0:=f.den) (d1:=e.den) (d2:=g.den) (w0:=CJ i n) (w1:=CJ n m) (w2:=CJ m i) (c:=1*f.den*e.den*g.den) (e0:=e.den*g.den) (e1:=f.den*g.den) (e2:=f.den*e.den)
  (by rw[E];exact P) (Bf D j vA vA) (Bf (DQ D j) r vA vA) (Bf (DQ (DQ D j) r) C vA vA) rfl
  (Bf w o.c vA vA) (Bf (DQ w o.c) H vA vA) (Bf w s.t vA vA) (I s) (Bf (DQ w s.t) (DQ r C) vA vA) Q
  (Bf A p.c vA vA) (Bf (DQ A p.c) H vA vA) (Bf A u.t vA vA) (I u) (Bf (DQ A u.t) (DQ j C) vA vA) R
  (Bf B q.c vA vA) (Bf (DQ B q.c) H vA vA) (Bf B v.t vA vA) (I v) (Bf (DQ B v.t) (DQ j r) vA vA) S
 refine⟨_,[.int F,hD i,fr e,G],run,?_,?_⟩
 ·rfl
 ·exact xj
def me(c:Option (Int×Int)):lf (C4 c)=true:=by cases c<;>rfl
def jT{f:Nat->D}{n i:Nat}{k:Int}(d:i<n)(n2:2<=n)(g:k=(i:Int)\/(k = -1/\i=n-1)):bI [.lst ((List.range n).map f),.int k]=some (.val (.tup [f (pv n i),f i,f (nx n i)])):=by
 refine w5 (by rw[Zc,Z3];omega) (dq (bL d) ?_) (dq d vB) (dq (bM d) ?_)
 ·unfold pv;split<;>omega
 ·rw[Zc,Z3,Qy _ vB];left
  unfold nx;split
  ·next e=>
   have:k+1=(n:Int)\/k+1=0:=by omega
   rcases this with z|z
   ·rw[z,Int.emod_self];rfl
   ·rw[z];rfl
  ·next e=>rw[G9 vB vB];omega
def Ic(e:List (Addr×List D))(f:Int)(d:List (Addr×List D)):Prop:=∃(A:Nat->Addr) (h:Nat->H3) (x:Nat->Rat) (n:Nat) (J:Nat->Nat) (k:Nat),(∀i,Hb (h i))/\(∀i,Sz 2000 (x i))/\3<=n/\n<=1000/\k<n/\(∀i j,i<n->j<n->A (J i)=A (J j)->i=j)/\e=CW A h x n J/\f=(k:Int)/\d=CW A h x (n-1) λi=>J (er k i)
def mf{A:Nat->Addr}{h:Nat->H3}{x:Nat->Rat}{n:Nat}{J:Nat->Nat}{c:Nat->D}(d:∀i,Hb (h i))(e:∀i,Sz 2000 (x i))(i:Nat):
  Ie (.tup [bD (A (J (pv n i))) (J (pv n i):Int) (h (J (pv n i))) (x (J (pv n i))) (c (pv n i)),bD (A (J i)) (J i:Int) (h (J i)) (x (J i)) (c i),bD (A (J (nx n i))) (J (nx n i):Int) (h (J (nx n i))) (x (J (nx n i))) (c (nx n i))]) (A (J i)) (C4 (CT h x n J i)):=
 ⟨_,_,_,_,_,_,_,_,_,_,_,_,_,_,_,⟨d _,d _,d _⟩,⟨e _,e _,e _⟩,rfl,rfl,rfl⟩
def xx(d:Γ 92=bI){L:List D}{k:Int}{T:D}(h:bI [.lst L,.int (k-1)]=some (.val T)):evs Γ o_drop.1 [some (.lst L),some (.int k)]=some [T]:=by
 unfold o_drop;dsimp only;walk_at "evh"
def xy(d:Γ 92=bI){L:List D}{k m:Int}{T:D}(e:(L.length:Int)=m)(f:0<m)(mn:m≠0)(h:bI [.lst L,.int (k%m)]=some (.val T)):evs Γ o_drop.2 [some (.lst L),some (.int k)]=some [T]:=by
 unfold o_drop;dsimp only;walk_at "evh"
def FJ(o:Γ 92=bI):∀d g l,Ic d g l -> -(2^63)<=g/\g<2^63/\∃n v r d1 w t d2,seqIndex? g d.length=some n/\n<d.length /\
   evs Γ o_drop.1 [some (.lst (Dg (d.eraseIdx n))),some (.int g)]=some [v]/\Ie v r d1/\lf d1=true/\r∈(d.eraseIdx n).map (·.1) /\
   evs Γ o_drop.2 [some (.lst (Dg (setC (d.eraseIdx n) r d1))),some (.int g)]=some [w]/\Ie w t d2/\lf d2=true/\t∈(d.eraseIdx n).map (·.1)/\l=setC (setC (d.eraseIdx n) r d1) t d2:=by
 rintro d g l ⟨A,h,x,n,J,k,B,sx,E,I,p,inj,rfl,rfl,rfl⟩
 have C:(CW A h x n J).length=n:=xu;have u:l1 n k<n-1:=by unfold l1;split<;>omega
 have D:l2 n k<n-1:=by unfold l2;split<;>omega
 have q:∀i j,i<n-1->j<n-1->A (J (er k i))=A (J (er k j))->i=j:=λi j F G e=>by
  have:=inj _ _ (bQ p F) (bQ p G) e
  unfold er at this;split at this<;>split at this<;>omega
 have s:(CW A h x n J).eraseIdx k=C6 A h x (n-1) (λi=>J (er k i)) λi=>C4 (CT h x n J (er k i)):=by
  unfold CW C6;rw[p5 p]
 have H:setC ((CW A h x n J).eraseIdx k) (A (J (er k (l1 n k)))) (C4 (CT h x (n-1) (λi=>J (er k i)) (l1 n k)))=C6 A h x (n-1) (λi=>J (er k i)) λj=>if j=l1 n k then C4 (CT h x (n-1) (λi=>J (er k i)) (l1 n k)) else C4 (CT h x n J (er k j)):=by
  rw[s,jR (J:=λi=>J (er k i)) u q]
 refine⟨by omega,by omega,k,_,_,_,_,_,_,?_,by rw[C];exact p,?_,mf (A:=A) (J:=λi=>J (er k i)) (n:=n-1) (c:=λi=>C4 (CT h x n J (er k i))) B sx (l1 n k),me _,?_,?_,mf (A:=A) (J:=λi=>J (er k i)) (n:=n-1) (c:=λj=>if j=l1 n k then C4 (CT h x (n-1) (λi=>J (er k i)) (l1 n k)) else C4 (CT h x n J (er k j))) B sx (l2 n k),me _,?_,(xw E p inj).symm⟩
 ·rw[C];exact(L2.ixN_seq (show L2.ixN n (k:Int)=some k by unfold L2.ixN;rw[if_pos vB,if_pos vB];congr 1)).1
 ·rw[s,eu];refine xx o (jT (f:=λi=>bD (A (J (er k i))) (J (er k i):Int) (h (J (er k i))) (x (J (er k i))) (C4 (CT h x n J (er k i)))) u vB ?_);unfold l1;split<;>omega
 ·rw[s];exact jS (J:=λi=>J (er k i)) u
 ·rw[H,eu];refine xy o (m:=((n-1:Nat):Int)) (by rw[Zc,Z3]) vB vB (jT (f:=λj=>bD (A (J (er k j))) (J (er k j):Int) (h (J (er k j))) (x (J (er k j))) (if j=l1 n k then C4 (CT h x (n-1) (λi=>J (er k i)) (l1 n k)) else C4 (CT h x n J (er k j)))) D vB (.inl ?_));unfold l2;split
  ·next z=>rw[show(k:Int)=((n-1:Nat):Int) by omega,Int.emod_self];rfl
  ·next z=>exact G9 vB vB
 ·rw[s];exact jS (J:=λi=>J (er k i)) D
end
open Sf
open Mg Fi PySem
section
variable{Γ:Nat->∅}
def p7{a b:Int}{q:Rat×Rat}(i:a.natAbs<2^110)(j:b.natAbs<2^110)(e:Sz 600 q.1)(f:Sz 600 q.2):cO [.int a,.int b,CC q]=some (.val (fr (lv a b q))):=by
 unfold cO;generalize d:tab jw=Γ;have m:Γ 9=cq:=by rw[<-d];rfl
 have l:Γ 11=bw:=by rw[<-d];rfl
 have g:=dc i vA;have h:=dc j vA;have n:bw [.tup [.int a,.int 1],fr q.1]=some (.val (fr ((a:Rat)*q.1))):=bz (x:=(a:Rat)) (Br g e vA vA);have o:bw [.tup [.int b,.int 1],fr q.2]=some (.val (fr ((b:Rat)*q.2))):=bz (x:=(b:Rat)) (Br h f vA vA);have p:cq [fr ((a:Rat)*q.1),fr ((b:Rat)*q.2)]=some (.val (fr (lv a b q))):=bz (Br (g.mul e) (h.mul f) vA vA);generalize fr (lv a b q)=O at *;generalize fr ((a:Rat)*q.1)=X at *;generalize fr ((b:Rat)*q.2)=Y at *;clear g h i j e f d;unfold jd CC;walk_at "evh"
def xA(e:Γ 50=cO)(f:Γ 21=dE){L:Option DL.B}{a b:Int}{X Q O:D}{d:Option DL.B}{c:Bool}(g:lf O=true)(h:lf X=true)(l1:cO [.int a,.int b,Q]=some (.val O))(b1:dE [X,O]=some (.val (.bl c))):
  exs Γ jy [L,~~~.int a,~~~.int b,~~~X,~~~Q,d]=some (.nx [L,~~~.int a,~~~.int b,~~~(if c=true then O else X),~~~Q,~~~O]):=by
 unfold jy;cases c
 ·walk_at "evh"
 ·walk_at "evh"
theorem p8(f:Γ 50=cO)(g:Γ 21=dE){a b:Int}(i:a.natAbs<2^110)(j:b.natAbs<2^110)(L:Option DL.B):∀(r:List (Rat×Rat)) (x:Rat) (c d:Option DL.B),DY 600 r->Sz 1500 x ->
  ∃l m,forN (Bo (.name 4)) (exs Γ jy) (r.map CC) [L,~~~.int a,~~~.int b,~~~fr x,c,d]=some (.nx [L,~~~.int a,~~~.int b,~~~fr (mx a b x r),l,m])
 |[],x,c,d,_,_=>⟨c,d,rfl⟩
 |q::r,x,c,d,n,t=>by
  obtain⟨o,p⟩:=n q (.head _)
  have u:Sz 1500 (lv a b q):=(((dc i vA).mul o).add ((dc j vA).mul p)).mono vA;obtain⟨l,m,k⟩:=p8 f g i j L r (if x<lv a b q then lv a b q else x) (~~~CC q) (~~~fr (lv a b q)) (λy v=>n y (.tail _ v)) (by split<;>assumption)
  refine⟨l,m,?_⟩
  have w:dE [fr x,fr (lv a b q)]=some (.val (.bl (decide (x<lv a b q)))):=bz (Br t u vA vA);have s:=xA (L:=L) (d:=d) f g (bS _) (bS _) (p7 i j o p) w;have e:(if decide (x<lv a b q)=true then fr (lv a b q) else fr x)=fr (if x<lv a b q then lv a b q else x):=by
   by_cases h:x<lv a b q
   ·rw[decide_eq_true h,if_pos rfl,if_pos h]
   ·rw[decide_eq_false h,if_neg vA,if_neg h]
  rw[e] at s;rw[Zy,cP rfl s];exact k
def xB{a b:Int}(e:a.natAbs<2^110)(f:b.natAbs<2^110){q:Rat×Rat}{r:List (Rat×Rat)}(g:DY 600 (q::r)):dg [.lst ((q::r).map CC),.int a,.int b]=some (.val (fr (mx a b (lv a b q) r))):=by
 unfold dg;generalize d:tab jx=Γ;have h:Γ 50=cO:=by rw[<-d];rfl
 have i:Γ 21=dE:=by rw[<-d];rfl
 obtain⟨j,m⟩:=g q (.head _)
 have l1:=p7 e f j m;obtain⟨o,p,k⟩:=p8 h i e f (~~~.lst ((q::r).map CC)) r (lv a b q) none none (λy n=>g y (.tail _ n)) ((((dc e vA).mul j).add ((dc f vA).mul m)).mono vA)
 have s:L2.atI ((q::r).map CC) 0=some (CC q):=by rw[Zy,o8 vA (by rw[Zw];omega)];rfl
 have t:cutD ((q::r).map CC) (some 1) none=r.map CC:=by
  have:=o9 (l:=(q::r).map CC) (a:=1) (by rw[Zc,Zw];omega)
  rw[show((1:Nat):Int)=1 from rfl] at this;rw[this];rfl
 have u:=bW r;unfold jy at k;generalize (q::r).map CC=v at *;generalize r.map CC=w at *;generalize CC q=Q at *;generalize mx a b (lv a b q) r=M at *;generalize lv a b q=X at *;clear j m g e f d;unfold gv;walk_at "evh"
def KW(e:Γ 40=ec){d d1:D}{L:List D}(h:ec [d]=some (.new L)):evI Γ o_bounds_of.1 [~~~d,~~~d1,none,none,none,none,none]=some (bK L,[~~~d,~~~d1,none,none,none,none,none]):=by
 have f:frz [~~~d,~~~d1,none,none,none,none,none]=[~~~d,~~~d1,none,none,none,none,none]:=rfl;unfold o_bounds_of;dsimp only;walk_at "evh"
def KU(d:Γ 10=bB)(e:Γ 59=dg){f d1 p:D}{a b c:Int}{g:Option D}{M O:D}(h:dg [d1,.int (-a),.int (-b)]=some (.val M))(i:bB [.tup [.int 0,.int 1],M]=some (.val O)):ev Γ o_bounds_of.2.1 (rB f d1 (some p) (some (.tup [.int a,.int b,.int c])) g none)=some (.val O):=by
 unfold o_bounds_of rB;dsimp only;walk_at "evh"
def KS(e:Γ 92=bI){f d1:D}{g i j:Option D}{k:Int}{d:List (Addr×List D)}{T:D}(h:bI [.lst (Dg d),.int k]=some (.val T)):evs Γ o_bounds_of.2.2.1 (CL (rB f d1 g i j (some (.int k))) 2 d)=some [T]:=by
 unfold o_bounds_of CL rB;dsimp only;walk_at "evh"
def KR{f d1:D}{g h i:Option D}{d:List (Addr×List D)}:evs Γ o_bounds_of.2.2.2 (CL (rB f d1 g h i none) 2 d)=some [.int (d.length:Int)]:=by
 have e:((Dg d).length:Int)=(d.length:Int):=by unfold Dg;rw[Zc]
 unfold o_bounds_of CL rB;dsimp only;walk_at "evh"
structure Bd2(l r:List V):Prop where
 hl:IsShp l
 hr:IsShp r
 zl:DY 165 l
 hb:∀i,Hb (hS l i)
 zr:SyL 600 600 r
 fl:l.length<=60
 fr:r.length<=60
def Bd2.pr{l r:List V}(T:Bd2 l r):0<r.length:=by have:=T.hr.three;omega
def xS(l r:List V)(i:Nat):Rat:=EE r (hS l i)
def Bd2.sx{l r:List V}(T:Bd2 l r)(i:Nat):Sz 2000 (xS l r i):=GR T.pr (T.hb i) T.zr
structure TwoS(l r:List V):Prop extends Bd2 l r where
 zs:SyL 80 12 r
def TwoS.mk'{l r:List V}(e:IsShp l)(f:IsShp r)(g:DY 165 l)(h:∀i,Hb (hS l i))(zs:SyL 80 12 r)(j:l.length<=60)(fr:r.length<=60):TwoS l r:=
 ⟨⟨e,f,g,h,λq d=>⟨(zs q d).1.mono vA vA,(zs q d).2.mono vA vA⟩,j,fr⟩,zs⟩
def TwoS.ss{l r:List V}(T:TwoS l r)(i:Nat):Sy 184 26 (xS l r i):=GS T.pr (T.hb i) T.zs
def EF(l r:List V)(c:Nat->D):List (List D):=(List.range l.length).map λi=>KG i (hS l i) (xS l r i) (c i)
def Xi(d d1:D)(e:List (List D)):Prop:=∃l r,Bd2 l r/\d=.lst (l.map CC)/\d1=.lst (r.map CC)/\e=EF l r λi=>C4 (CT (hS l) (xS l r) l.length (λi=>i) i)
def xC{l r:List V}(T:Bd2 l r)(i:Nat):∃M,dg [.lst (r.map CC),.int (-(hS l i).1),.int (-(hS l i).2.1)]=some (.val (fr M))/\bB [.tup [.int 0,.int 1],fr M]=some (.val (fr (xS l r i))):=by
 have g:=T.hb i;have d:=T.sx i;have f:=T.zr;have h:=T.pr;unfold xS EE at *;match r,h,f,d with
 |q::r,_,f,d=>
  refine⟨_,xB (by rw[Jg];exact Zg g.a (Bm vA)) (by rw[Jg];exact Zg g.b (Bm vA)) (f.sz vA vA),?_⟩
  have e:mx (-(hS l i).1) (-(hS l i).2.1) (lv (-(hS l i).1) (-(hS l i).2.1) q) r=0-(0-mx (-(hS l i).1) (-(hS l i).2.1) (lv (-(hS l i).1) (-(hS l i).2.1) q) r):=by grind
  simp only[List.headD_cons,List.tail_cons] at d |-;refine bz (x:=0) (Br (m:=1) (n:=2000) ⟨by decide,by decide⟩ ?_ vA vA);rw[e,Kd,Rat.zero_add];exact d.neg
def rng_getD{e:Type}{d:List e}{a:e}:(List.range d.length).map (λi=>d.getD i a)=d:=by
 apply Qv
 intro i;by_cases h:i<d.length
 ·rw[dM h,Yf,Zj h];rfl
 ·rw[Y6 (by rw[Zc,Z3];omega),Y6 vB]
def p9{f:Type}{d:List f}{a:f}(g:d.Nodup){i j:Nat}(h:i<d.length)(l:j<d.length)(e:d.getD i a=d.getD j a):i=j:=by
 rw[Yf,Yf,Zj h,Zj l] at e;exact(Kr g).mp e
def Ik(C:Γ 40=ec)(E:Γ 10=bB)(F:Γ 59=dg)(G:Γ 92=bI):∀m d1 H,Xi m d1 H->∃g o,g.length<1000/\evI Γ o_bounds_of.1 [~~~m,~~~d1,none,none,none,none,none]=some (g,[~~~m,~~~d1,none,none,none,none,none])/\o.length=g.length /\
   (∀(i:Nat) (d:D),g[i]? = some d->∃p s l,d=D.tup [p,s]/\o[i]? = some [p,s,l,.non]/\∀q,ev Γ o_bounds_of.2.1 (rB m d1 (some p) (some s) q none)=some (.val l)) /\
   (∀I K q w,w.length=g.length->evs Γ o_bounds_of.2.2.2 (CL (rB m d1 I K q none) 2 w)=some [.int (w.length:Int)]) /\
   ∀h,h.Nodup->h.length=g.length->lF Γ Ie m d1 o_bounds_of.2.2.1 g.length h o H:=by
 rintro m d1 H ⟨l,r,T,rfl,rfl,rfl⟩
 have L:=T.hl.three;have z:(bK ((cB l).map hD)).length=l.length:=by unfold bK;rw[Zc,W6,Zc,xn]
 refine⟨bK ((cB l).map hD),EF l r λ_=>.non,?_,KW C (wg (nodup T.hl) vB (by have:=T.fl;omega) T.zl),?_,λi d B=>?_,λI K q w _=>KR,λh Q O=>?_⟩
 ·rw[z];have:=T.fl;omega
 ·rw[z];unfold EF;rw[Zc,Z3]
 ·have t:i<l.length:=by
   have:=(Zi.mp B).1
   rw[z] at this;exact this
  unfold bK at B;rw[Zm,List.getElem?_zipIdx,Zm,xo t] at B;have v:D.tup [.int ((0+i:Nat):Int),hD (hS l i)]=d:=Zs B;rw[W8] at v;obtain⟨M,R,S⟩:=xC T i
  refine⟨.int (i:Int),hD (hS l i),fr (xS l r i),v.symm,?_,λq=>?_⟩
  ·unfold EF;rw[dM t];rfl
  ·exact KU E F R S
 ·rw[z] at O |-;obtain⟨u,_⟩:∃a,h[0]? = some a:=⟨h[0]'vB,Zj _⟩
  have inj:∀i j,i<l.length->j<l.length->h.getD i u=h.getD j u->i=j:=λi j t U e=>p9 Q vB vB e
  refine⟨λk=>C6 (λi=>h.getD i u) (hS l) (xS l r) l.length (λi=>i) λi=>if i<k then C4 (CT (hS l) (xS l r) l.length (λi=>i) i) else .non,?_,?_,?_,λk N=>?_⟩
  ·unfold C6;rw[Yg,<-O];exact rng_getD
  ·unfold C6 EF;rw[Yg];exact Y5 λi _=>by simp only[Function.comp,Nat.not_lt_zero,if_false]
  ·unfold C6 EF;rw[Yg];exact Y5 λi t=>by simp only[Function.comp,Ym.mp t,if_true]
  ·refine⟨_,_,_,λI K q=>KS G ?_,mf (A:=λi=>h.getD i u) (J:=λi=>i) (n:=l.length) (c:=λi=>if i<k then C4 (CT (hS l) (xS l r) l.length (λi=>i) i) else .non) T.hb T.sx k,me _,jS (J:=λi=>i) N,?_⟩
   ·rw[eu];exact jT (f:=λi=>bD (h.getD i u) ((i:Nat):Int) (hS l i) (xS l r i) (if i<k then C4 (CT (hS l) (xS l r) l.length (λi=>i) i) else .non)) N vB (.inl rfl)
   ·rw[jR (A:=λi=>h.getD i u) (J:=λi=>i) N inj];refine p6 λi t=>?_;by_cases e:i=k
    ·subst e;rw[if_pos rfl,if_pos (Ww _)]
    ·rw[if_neg e];by_cases P:i<k
     ·rw[if_pos P,if_pos vB]
     ·rw[if_neg P,if_neg vB]
def HD{d:Nat->Option (Int×Int)}{j:Nat}(h:d j=none):ear d (j+1)=ear d j:=by
 conv=>lhs;unfold ear
 rw[h]
def HC{d:Nat->Option (Int×Int)}{j:Nat}{r:Int×Int}(h:d j=some r)(f:ear d j=none):ear d (j+1)=some j:=by
 conv=>lhs;unfold ear
 rw[h];simp only;rw[f]
def HA{d:Nat->Option (Int×Int)}{j i:Nat}{r p:Int×Int}(h:d j=some r)(f:ear d j=some i)(g:d i=some p):ear d (j+1)=some (if r.1*p.2<p.1*r.2 then j else i):=by
 conv=>lhs;unfold ear
 rw[h];simp only;rw[f];simp only;rw[g]
def xD{L:List D}{n:Nat}{h:Nat->Option (Int×Int)}(K:L.length=n)(z:n<=1000)(A:∀i,i<n->∃a p s l,L[i]? = some (.obj a [.int p,s,l,C4 (h i)]))(G:∀i q,h i=some q->0<q.2)
 (B:∀i q,h i=some q->q.1.natAbs<2^16000/\q.2.natAbs<2^16000):dJ [.lst L]=some (.val (fD (ear h n))):=by
 unfold dJ;generalize m:tab [(21,bN)]=Γ;have C:Γ 21=bN:=by rw[<-m];rfl
 obtain⟨M,e,E,v,rfl⟩:=fy (bt:=Bo (.name 2)) (fb:=exs Γ jN) (I:=λk H=>∃E v,H=[~~~.lst L,~~~fD (ear h k),E,v]) n [~~~.lst L,~~~.non,none,none] ⟨none,none,rfl⟩ (λj H N ⟨E,v,e⟩=>by
  subst e;have bf:=ma G j;obtain⟨a,p,s,l,g⟩:=A j N
  have o:=jF g;refine⟨[~~~.lst L,~~~fD (ear h j),~~~.int (j:Int),v],?_⟩
  cases q:h j with
  |none=>
   rw[q] at o;refine⟨_,rfl,xb (by cases ear h j<;>rfl) o,_,_,by rw[HD q]⟩
  |some r=>
   rw[q] at o;cases f:ear h j with
   |none=>exact⟨_,rfl,xc o,_,_,by rw[HC q f];rfl⟩
   |some i=>
    rw[f] at bf;obtain⟨V,t,F,W⟩:=bf
    obtain⟨Y,Z,s',l',gi⟩:=A i vB
    have u:=jF gi;rw[F] at u;obtain⟨O,P⟩:=B j r q
    obtain⟨Q,R⟩:=B i t F
    have S:=pS (a:=r.1) (b:=r.2) (c:=t.1) (d:=t.2) (by unfold Bk;rw[decide_eq_true O,decide_eq_true R];rfl) (by unfold Bk;rw[decide_eq_true Q,decide_eq_true P];rfl);refine⟨_,rfl,xg C o u S,~~~.int (j:Int),~~~.tup [.int r.1,.int r.2],?_⟩
    rw[HA q f F];by_cases w:r.1*t.2<t.1*r.2
    ·rw[decide_eq_true w,if_pos rfl,if_pos w];rfl
    ·rw[decide_eq_false w,if_neg vA,if_neg w];rfl)
 have J:lf (fD (ear h n))=true:=by cases ear h n<;>rfl
 generalize T:fD (ear h n)=X at *;have U:(L.length:Int)=(n:Int):=by rw[K]
 have r1 : -4611686018427387904<=(n:Int)/\(n:Int)<4611686018427387904:=⟨by omega,by omega⟩;have r2:((n:Int)).toNat=n:=Zz n;unfold jh;clear A G B T m z;walk_at "evh"
end
open Sf
open Mg Fi PySem
section
variable{Γ:Nat->∅}
section
variable{A:Nat->Addr}{h:Nat->H3}{x:Nat->Rat}{N n:Nat}{J:Nat->Nat}
def qa(d:∀i,Hb (h i))(f:∀i,Sz 2000 (x i))(g:n<=1000):dJ [.lst (Dg (CW A h x n J))]=some (.val (fD (ear (CT h x n J) n))):=by
 unfold CW;rw[eu];refine xD (by rw[Zc,Z3]) g (λi j=>⟨A (J i),(J i:Int),hD (h (J i)),fr (x (J i)),by rw[dM j];rfl⟩) (λi q e=>(jO e).1) (λi q e=>?_);obtain⟨l,m⟩:=pY (d _) (d _) (d _) (f _) (f _) (f _) e
 exact⟨Zg l (Bm vA),Zg m (Bm vA)⟩
def xE{c:Nat->D}{k:Nat}(d:k<n)(n2:2<=n):bI [.lst (Dg (C6 A h x n J c)),.int (k:Int)]=some (.val (.tup [bD (A (J (pv n k))) (J (pv n k):Int) (h (J (pv n k))) (x (J (pv n k))) (c (pv n k)),bD (A (J k)) (J k:Int) (h (J k)) (x (J k)) (c k),bD (A (J (nx n k))) (J (nx n k):Int) (h (J (nx n k))) (x (J (nx n k))) (c (nx n k))])):=by
 rw[eu];exact jT (f:=λi=>bD (A (J i)) (J i:Int) (h (J i)) (x (J i)) (c i)) d n2 (.inl rfl)
def xF(d:∀i,Hb (h i)){k:Nat}(e:k<n)(n2:2<=n):dH [.lst (Dg (CW A h x n J)),.int (k:Int)]=some (.val (.bl (decide (0<=CJ (h (J (nx n k))) (h (J (pv n k))))))):=
 w6 (xE e n2) (pQ ((d _).hb vA) ((d _).hb vA) ((d _).hb vA))
end
def qb{x y:Rat}(h:fr x=fr y):x=y:=by
 unfold fr at h;have d:x.num=y.num:=by injection h with h;injection h with h _;injection h
 have e:(x.den:Int)=(y.den:Int):=by injection h with h;injection h with _ h;injection h with h _;injection h
 exact Rat.ext d vB
def xG{p q:V}(h:CC p=CC q):p=q:=by
 unfold CC at h;have d:fr p.1=fr q.1:=by injection h with h;injection h
 have e:fr p.2=fr q.2:=by injection h with h;injection h with _ h;injection h
 exact Yt (qb d) (qb e)
theorem mh:∀{l m:List V},l.map CC=m.map CC->l=m
 |[],[],_=>rfl
 |[],_::_,h=>by cases h
 |_::_,[],h=>by cases h
 |a::l,b::m,h=>by
  rw[Zy,Zy] at h;injection h with d e
  rw[xG d,mh e]
end
open Sf
open Mg Fi PySem
section
variable{Γ:Nat->∅}
def GP(x:Rat):D.tup [.int (0-x.num),.int (x.den:Int)]=fr (-x):=by
 show D.tup [.int (0-x.num),.int (x.den:Int)]=D.tup [.int (-x.num),.int (x.den:Int)];rw[Int.zero_sub]
def ew{x y:Rat}{m n:Nat}(d:Sz m x)(e:Sz n y)(f:m<=4400)(g:n<=4400):bx [fr x,.tup [.int (0-y.num),.int (y.den:Int)]]=some (.val (fr (x-y))):=by
 rw[GP,Kd];exact bz (Br d e.neg f g)
def jU{x y:Rat}{m n:Nat}(d:Sz m x)(e:Sz n y)(f:m<=4400)(g:n<=4400):bx [fr x,fr y]=some (.val (fr (x+y))):=bz (Br d e f g)
def gX{x y:Rat}{m n:Nat}(d:Sz m x)(e:Sz n y)(f:m<=4400)(g:n<=4400):cD [fr x,fr y]=some (.val (fr (x*y))):=bz (Br d e f g)
abbrev fF:List (Nat×(∅)):=[(108,bx),(74,cD)]
def bC:∅:=run (tab fF) fk 9
def xH(d:Γ 108=bx)(e:Γ 74=cD){n1 d1 n2 d2 p q u v:Int}{B1 B2 C1 C2 X1 X2 X3 X4:D}(l1:lf X1=true)(l2:lf X2=true)(f:lf X3=true)(g:lf X4=true)
 (h:bx [B1,.tup [.int (0-n1),.int d1]]=some (.val X1))(i:bx [B2,.tup [.int (0-n2),.int d2]]=some (.val X2))(j:bx [C1,.tup [.int (0-n1),.int d1]]=some (.val X3))(l:bx [C2,.tup [.int (0-n2),.int d2]]=some (.val X4))
 (m:cD [X1,X4]=some (.val (.tup [.int p,.int q])))(n:cD [X2,X3]=some (.val (.tup [.int u,.int v])))(o1:Bk p v=true)(o2:Bk u q=true):
  run Γ fk 9 [.tup [.tup [.int n1,.int d1],.tup [.int n2,.int d2]],.tup [B1,B2],.tup [C1,C2]]=some (.val (.int (p*v-u*q))):=by
 unfold fk;walk_at "evh"
def bZ:∅:=run (tab [(45,bC)]) fo 3
def xI(e:Γ 45=bC):∀d w,d.length=2->bZ d=some w->run Γ fo 3 d=some w:=λd w _ h=>bq [(45,bC)] (λp f=>by
 simp only[Zf,Zk,or_false] at f;subst f;exact e) vA d w h
abbrev dN:Ss:=#v[.iff (.cmp .lt (.call 45 #v[.ix (.var 0) (.bin .sub (.var 2) (.int 1)),.ix (.var 0) (.var 2),.var 1]) (.int 0)) #v[.ret (.bl false)] .nil]
def xJ(d:Γ 45=bC){L:List D}{c a b:D}{k s:Int}(e:L2.atI L (k-1)=some a)(f:L2.atI L k=some b)(q:bC [a,b,c]=some (.val (.int s)))(g:decide (s<0)=false):
  exs Γ dN [~~~.lst L,~~~c,~~~.int k]=some (.nx [~~~.lst L,~~~c,~~~.int k]):=by
 walk_at "evh"
def mj{l:List V}:l.map CC=(List.range l.length).map λi=>CC (CD l i):=by
 apply Qv
 intro i;by_cases h:i<l.length
 ·rw[dM h,Zm,Zj h];unfold CD;rw[Zh h,Yf,Zj h];rfl
 ·rw[Y6 (by rw[Zc];omega),Y6 (by rw[Zc,Z3];omega)]
def cw:∅:=run (tab fF) lx 7
abbrev qc:Ss:=#v[.asg 6 (.call 108 #v[.call 74 #v[.var 4,.var 1],.ix (.var 2) (.int 0)]),.app 3 (.tup #v[.var 6,.call 108 #v[.call 74 #v[.var 5,.var 1],.ix (.var 2) (.int 1)]])]
def xK(h:Γ 108=bx)(l:Γ 74=cD){S F e f X Y i j d g:D}{M:List D}{m:Option B}(n:lf d=true)(o:lf g=true)(p:cD [X,F]=some (.val i))(q:cD [Y,F]=some (.val j))(r:bx [i,e]=some (.val d))(s:bx [j,f]=some (.val g))(t:(M.length<PySem.sizeLine)=True):
  exs Γ qc [~~~S,~~~F,~~~.tup [e,f],some (.ow M),~~~X,~~~Y,m]=some (.nx [~~~S,~~~F,~~~.tup [e,f],some (.ow (M++[.tup [d,g]])),~~~X,~~~Y,~~~d]):=by
 walk_at "evh"
def Di(t:Rat)(v q:V):V:=(q.1*t+v.1,q.2*t+v.2)
def cQ:∅:=run (tab [(14,cA)]) gy 1
def xM(e:Γ 14=cA):∀d w,d.length=1->cQ d=some w->run Γ gy 1 d=some w:=λd w _ h=>bq [(14,cA)] (λp f=>by
 simp only[Zf,Zk,or_false] at f;subst f;exact e) vA d w h
def qd{x:Rat}:cA [fr x]=some (.val (.bl true)):=by
 unfold cA;simp only[oX]
def xN{v:V}:cQ [CC v]=some (.val (.bl true)):=by
 unfold cQ;generalize d:tab [(14,cA)]=Γ;have e:Γ 14=cA:=by rw[<-d];rfl
 have f:=qd (x:=v.1);have g:=qd (x:=v.2);unfold gy CC;generalize fr v.1=X at *;generalize fr v.2=Y at *;clear d;walk_at "evh"
end
open Sf
open Mg Fi PySem
section
variable{Γ:Nat->∅}
def EJ{x:Rat}{n:Nat}(h:Sz n x):((x.den:Int)).natAbs<2^n:=h.b
end
open Sf
open Mg Fi PySem
section
variable{Γ:Nat->∅}
end
open Sf
open Mg Fi PySem
section
variable{Γ:Nat->∅}
def HJ{d:List Int}{k:Nat}(h:k<=d.length):cutD (d.map D.int) (some (k:Int)) none=(d.drop k).map D.int:=by
 rw[pF (by rw[Zc];exact h),Vr]
end
open Sf
open Mg Fi PySem
section
variable{Γ:Nat->∅}
theorem xO:∀d w,dE d=some w->bN d=some w
 |[],w,h=>by cases h
 |[_],w,h=>by cases h
 |[a,b],w,h=>v7 [a,b] w rfl h
 |_::_::_::_,w,h=>by cases h
def ok_reachR(g:Γ 50=cO)(i:Γ 21=bN):∀d w,d.length=3->dg d=some w->run Γ gv 6 d=some w:=λd w _ h=>by
 have l:∀f d w,tab jx f d=some w->Γ f d=some w:=λf d w q=>by
  by_cases e:f=50
  ·subst e;rw[g];exact q
  ·by_cases j:f=21
   ·subst j;rw[i];exact xO d w q
   ·unfold jx at q;rw[i7 e,i7 j] at q;cases q
 unfold dg run at h;unfold run;exact Bb (λo=>CP l gv _ o vA) (λ_ _ z=>z) h
def ok_law_is_spot(d:Γ 14=cA):∀e w,e.length=1->cQ e=some w->run Γ gy 1 e=some w:=xM d
end
section
open L2
variable{P:Program}{w:World}{K:vE}{mg:Str->Option Value}{base:Heap}
theorem GSp.mono{j k:Nat}{x:Str}{sp:Sp}(G:GSp P w K mg base j x sp)(h:j<=k):GSp P w K mg base k x sp:=by
 obtain⟨a,d,ps,F,e,f,g⟩:=G
 exact⟨a,d,ps,F.mono h,e,f,g⟩
theorem MkB.mono{j k:Nat}(M:MkB P w K mg base j)(h:j<=k):MkB P w K mg base k:=by
 obtain⟨C,f,d,ps,e,g,i,l,m⟩:=M.ex
 exact⟨C,f,d,ps,e,g,i,l.mono h,m⟩
def atc_mk{h:Stmt}{C f:Addr}{i:Value}{j:Option Addr}{kV e m:Value}{n:Option Addr}{d ct:Value}{g:Array (Option Value)}(a:PySem.W.nsIn K mainGlobals "Bound" = some (some (.ref C)))(o:PySem.W.findIn K (.ref C) "__init__" = some (some (.ref f)))
 (p:PySem.W.plainGet K C Str.empty=true)(q:PySem.W.hasDictIn K C=true)(r:PySem.W.plainOver K C=true)(s:PySem.W.findIn K (.ref C) "__setattr__" = some (some (.builtin "object.__setattr__")))
 (n1:PySem.W.findIn K (.ref C) "place" = some none)(n2:PySem.W.findIn K (.ref C) "side" = some none)(t:PySem.W.findIn K (.ref C) "least" = some none)(u:PySem.W.findIn K (.ref C) "closing" = some none)
 (v:PySem.W.makesIn K C=true)(w:PySem.W.isFn K (.ref f)=true)(z:PySem.W.keepIn K (.ref C)=true)
 (l:K.lookup f=some ⟨i,j,.func (PySem.W.fnOf "__init__" "Bound.__init__" (bT h) (Bc h) (Ba h) .none kV e m n d ct),g⟩)(c:PySem.W.codeIn K d "Bound.__init__" = true)(k:PySem.W.keepIn K (.ref f)=true):AtC K h:=
 ⟨C,f,i,j,kV,e,m,n,d,ct,g,a,⟨p,q,r,s⟩,⟨n1,n2,t,u⟩,⟨v,o,w,z⟩,l,c,k⟩
end
open Mg Fi Sf
theorem ml{d:Type}{f g:d->Rat}:∀{S:List d},(∀e∈S,f e<=g e)->(S.map f).sum<=(S.map g).sum
 |[],_=>Qb
 |a::S,h=>by
  have i:=ml (S:=S) λe l=>h e (.tail _ l)
  have j:=h a (.head _);simp only[Zy,Y4];grind
theorem mq{d:Type}{f g:d->Rat}:∀{S:List d},(S.map λe=>f e+g e).sum=(S.map f).sum+(S.map g).sum
 |[]=>by simp only[Wp,Q7];grind
 |a::S=>by
  have i:=mq (f:=f) (g:=g) (S:=S);simp only[Zy,Y4];grind
theorem jV{d:Type}{f:d->Rat}{k:Rat}:∀{S:List d},(S.map λe=>k*f e).sum=k*(S.map f).sum
 |[]=>by simp only[Wp,Q7];grind
 |a::S=>by
  have i:=jV (f:=f) (k:=k) (S:=S);simp only[Zy,Y4];grind
theorem jW{d:Type}{f:d->Int}:∀{S:List d},(((S.map f).sum:Int):Rat)=(S.map λe=>((f e:Int):Rat)).sum
 |[]=>rfl
 |a::S=>by
  have i:=jW (f:=f) (S:=S);simp only[Zy,Y4,K4,i]
section
variable{h:Nat->H3}{x:Nat->Rat}{N:Nat}{t:Rat}{S:List (Int×Int)}
def Cert.zero(C:Cert h x N t S)(u:V):(S.map λe=>(e.2:Rat)*xr (wy (h e.1.toNat)) u).sum=0:=by
 have a:(S.map λe=>((e.2*(h e.1.toNat).1:Int):Rat)).sum=0:=by rw[<-jW,C.sa];rfl
 have b:(S.map λe=>((e.2*(h e.1.toNat).2.1:Int):Rat)).sum=0:=by rw[<-jW,C.sb];rfl
 have e:(S.map λe=>(e.2:Rat)*xr (wy (h e.1.toNat)) u)=S.map λe=>u.1*((e.2*(h e.1.toNat).1:Int):Rat)+u.2*((e.2*(h e.1.toNat).2.1:Int):Rat):=
  Y5 λe _=>by rw[fB,Yi,Yi];grind
 rw[e,mq,jV,jV,a,b];grind
def Cert.sc'(C:Cert h x N t S):(S.map λe=>(e.2:Rat)*((h e.1.toNat).2.2:Rat)).sum=t*(S.map λe=>(e.2:Rat)*x e.1.toNat).sum:=by
 have:=C.sc
 rw[jW] at this;rw[<-this];exact congrArg List.sum (Y5 λe _=>by rw[Yi])
def Cert.w(C:Cert h x N t S){e:Int×Int}(d:e∈S):(0:Rat)<(e.2:Rat)/\e.1.toNat<N:=by
 obtain⟨j,f,g,i,_⟩:=C.ok e d
 refine⟨?_,by rw[f,Zz];exact g⟩
 rw[show(0:Rat)=((0:Int):Rat) from rfl,Yb];omega
def Cert.ne(C:Cert h x N t S):S≠[]:=λz=>by rcases C.len with y|y<;>rw[z] at y<;>cases y
def Cert.neg(C:Cert h x N t S){P:List V}(g:∀j,j<N->∀q∈P,((h j).2.2:Rat)<=xr (wy (h j)) q)(i:∀j,j<N->∃q∈P,((h j).2.2:Rat)<xr (wy (h j)) q):(S.map λe=>(e.2:Rat)*((h e.1.toNat).2.2:Rat)).sum<0:=by
 match S,C with
 |[],C=>exact absurd rfl C.ne
 |e::S,C=>
  obtain⟨l,m⟩:=C.w (e:=e) (.head _)
  obtain⟨q,n,o⟩:=i _ m
  have z:=C.zero q;have r:(S.map λe=>(e.2:Rat)*((h e.1.toNat).2.2:Rat)).sum<=(S.map λe=>(e.2:Rat)*xr (wy (h e.1.toNat)) q).sum:=ml λd f=>by
   obtain⟨p,l1⟩:=C.w (e:=d) (.tail _ f)
   have:=Zp (Z5 p) (show 0<=xr (wy (h d.1.toNat)) q-((h d.1.toNat).2.2:Rat) by have:=g _ l1 q n;grind)
   grind
  have lt:=Zq l (show 0<xr (wy (h e.1.toNat)) q-((h e.1.toNat).2.2:Rat) by grind);simp only[Zy,Y4] at z |-;grind
def Cert.max(C:Cert h x N t S)(f:0<t){P:List V}(g:∀j,j<N->∀q∈P,((h j).2.2:Rat)<=xr (wy (h j)) q)(i:∀j,j<N->∃q∈P,((h j).2.2:Rat)<xr (wy (h j)) q){s:Rat}{u:V}
 (l:∀j,j<N->((h j).2.2:Rat)<=s*x j+xr (wy (h j)) u):s<=t:=by
 have ng:=C.neg g i;have sc:=C.sc';have z:=C.zero u;have d:(S.map λe=>(e.2:Rat)*((h e.1.toNat).2.2:Rat)).sum<=(S.map λe=>s*((e.2:Rat)*x e.1.toNat)+(e.2:Rat)*xr (wy (h e.1.toNat)) u).sum:=ml λe m=>by
  obtain⟨n,l1⟩:=C.w m
  have:=Zp (Z5 n) (show 0<=s*x e.1.toNat+xr (wy (h e.1.toNat)) u-((h e.1.toNat).2.2:Rat) by have:=l _ l1;grind)
  grind
 rw[mq,jV,z] at d;rw[sc] at d ng;generalize (S.map λe=>(e.2:Rat)*x e.1.toNat).sum=X at *;have o:X<0:=by
  by_cases y:X<0
  ·exact y
  ·have:=Zp (Z5 f) (show 0<=X by grind)
   grind
 by_cases y:s<=t
 ·exact y
 ·have:=Zq (show 0<s-t by grind) (show 0 < -X by grind)
  grind
end
open Mg Fi Sf
def Er(l:List V)(y:V):Prop:=∀j,j<l.length->(((hS l j).2.2:Int):Rat)<=xr (wy (hS l j)) y
def sp(s:Rat)(u q:V):V:=(s*q.1+u.1,s*q.2+u.2)
def eD{d:V}{s:Rat}{u q:V}:xr d (sp s u q)=s*xr d q+xr d u:=by unfold xr sp;grind
def FT{l:List V}{q:V}(h:q∈l):∃i,i<l.length/\CD l i=q:=by
 obtain⟨i,d,e⟩:=Qf h
 refine⟨i,d,?_⟩
 unfold CD;rw[Zh d,Yf,Zj d,<-e];rfl
def qe{l:List V}(d:IsShp l){q:V}(h:q∈l):Er l q:=λj f=>by
 obtain⟨i,_,e⟩:=FT h
 rw[<-e];exact(gW d).corner i f
def xP{l:List V}(d:IsShp l)(j:Nat):(((hS l j).2.2:Int):Rat)=xr (wy (hS l j)) (CD l j):=by
 obtain⟨k,_,_,e⟩:=gU d j
 exact e
def Hk{l:List V}(d:IsShp l){j:Nat}(f:j<l.length):∃q∈l,(((hS l j).2.2:Int):Rat)<xr (wy (hS l j)) q:=by
 obtain⟨m,g,e⟩:=(gW d).way j f
 have:=Zq g ((lR d (nodup d)).turn j)
 refine⟨CD l (j+2),Bs vB _,?_⟩
 have e:wy (hS l j)=sm m (ed (CD l) j):=e;rw[xP d,e,dh,dh];have h:xr (mn (CD l (j+1)) (CD l j)) (mn (CD l (j+2)) (CD l (j+1)))=xr (ed (CD l) j) (CD l (j+2))-xr (ed (CD l) j) (CD l j):=by unfold ed mn xr;grind
 rw[h] at this;grind
theorem qf{f:Nat->Rat}:∀n,0<n->∃i,i<n/\∀j,j<n->f i<=f j
 |0,h=>absurd h (Wm 0)
 |1,_=>⟨0,by omega,λj d=>by rw[show j=0 by omega];exact Qb⟩
 |n+2,_=>by
  obtain⟨i,g,h⟩:=qf (f:=f) (n+1) vB
  by_cases c:f i<=f (n+1)
  ·refine⟨i,by omega,λj d=>?_⟩
   by_cases e:j=n+1
   ·rw[e];exact c
   ·exact h j vB
  ·refine⟨n+1,by omega,λj d=>?_⟩
   by_cases e:j=n+1
   ·rw[e];exact Qb
   ·have:=h j vB;grind
def xQ{l:List V}(g:IsShp l){y:V}(h:Er l y)(d:V):∃q∈l,xr d q<=xr d y:=by
 have n:=g.three;have P:=lR g (nodup g);obtain⟨i,J,s⟩:=qf (f:=λi=>xr d (CD l i)) l.length vB
 refine⟨CD l i,Bs vB _,?_⟩
 have all:∀k,xr d (CD l i)<=xr d (CD l k):=λk=>by
  have:=s (k%l.length) (Wi _ vB)
  have e:CD l (k%l.length)=CD l k:=by unfold CD;rw[Jk]
  rw[e] at this;exact this
 have o:∀j,0<=xr (ed (CD l) j) (mn y (CD l j)):=λj=>by
  have u:j%l.length<l.length:=Wi _ vB;obtain⟨m,v,w,z⟩:=gU g (j%l.length)
  have:=h _ u
  rw[z,w,dh,dh] at this;have p:CD l (j%l.length)=CD l j:=by unfold CD;rw[Jk]
  have D:CD l (j%l.length+1)=CD l (j+1):=by unfold CD;rw[W4]
  have E:ed (CD l) (j%l.length)=ed (CD l) j:=by unfold ed;rw[p,D]
  rw[E,p] at this;have F:xr (ed (CD l) j) (mn y (CD l j))=xr (ed (CD l) j) y-xr (ed (CD l) j) (CD l j):=by unfold xr mn;grind
  rw[F];exact cC v (by grind)
 have r:CD l (i+l.length)=CD l i:=P.per i;have a:=o i;have b:=o (i+l.length-1);have t:=P.turn (i+l.length-1);have K:=all (i+1);have L:=all (i+l.length-1);rw[show i+l.length-1+1=i+l.length by omega,show i+l.length-1+2=i+1+l.length by omega,r,P.per (i+1)] at t;have G:ed (CD l) (i+l.length-1)=mn (CD l i) (CD l (i+l.length-1)):=by unfold ed;rw[show i+l.length-1+1=i+l.length by omega,r]
 rw[G] at b;have H:ed (CD l) i=mn (CD l (i+1)) (CD l i):=rfl;rw[H] at a;generalize CD l (i+1)=A at *;generalize CD l (i+l.length-1)=B at *;generalize CD l i=C at *;have key:xr (mn C B) (mn A C)*(xr d y-xr d C)=xr (mn C B) (mn y C)*(xr d A-xr d C)+xr (mn A C) (mn y C)*(xr d B-xr d C):=by unfold xr mn;grind
 have I:0<=xr (mn C B) (mn y C):=by
  have:xr (mn C B) (mn y B)=xr (mn C B) (mn y C):=by unfold xr mn;grind
  rw[<-this];exact b
 have M:=Zp I (show 0<=xr d A-xr d C by grind);have N:=Zp a (show 0<=xr d B-xr d C by grind);have:0<=xr d y-xr d C:=cC t (by rw[Vx];grind)
 grind
open Mg Fi Sf
open Mg Fi Sf
open Sf
open Mg Fi PySem
section
variable{Γ:Nat->∅}
end
open Sf
open Mg Fi PySem
section
variable{Γ:Nat->∅}
end
open Mg Fi Sf
section
variable{h:Nat->H3}{x:Nat->Rat}{N:Nat}
noncomputable def finP(h:Nat->H3)(x:Nat->Rat):Nat->Nat->(Nat->Nat)->Bool×Nat×(Nat->Nat)×Nat
 |0,n,J=>(false,n,J,0)
 |m+1,n,J=>let k:=(ear (CT h x n J) n).getD 0
  let p:=(CT h x n J k).getD (0,1)
  if p.1<p.2 then(if 0<=CJ (h (J (nx n k))) (h (J (pv n k))) then(true,n,J,k) else finP h x m (n-1) λi=>J (er k i)) else(false,n,J,k)
structure PuE(h:Nat->H3)(x:Nat->Rat)(N n:Nat)(J:Nat->Nat):Prop where
 ok:Ok (λi=>wy (h (J i))) (λi=>((h (J i)).2.2:Rat)) (λi=>x (J i)) n 1
 mono:∀i k,i<k->k<n->J i<J k
 lt:∀i,i<n->J i<N
 back:∀y,(∀i,i<n->((h (J i)).2.2:Rat)-1*x (J i)<=xr (wy (h (J i))) y)->∀j,j<N->((h j).2.2:Rat)-1*x j<=xr (wy (h j)) y
def Ea(h:Nat->H3)(x:Nat->Rat)(N:Nat)(b:Bool)(n:Nat)(J:Nat->Nat)(k:Nat):Prop:=if b=true then ∃p,FinS h x N n J k p/\fac p<1 else PuE h x N n J
def qg{p:Int×Int}(h:0<p.2):p.1<p.2↔fac p<1:=by
 have e:=md h;have d:(0:Rat)<(p.2:Rat):=by rw[show(0:Rat)=((0:Int):Rat) from rfl,Yb];exact h
 rw[<-Yb,<-e];constructor
 ·intro z;by_cases c:fac p<1
  ·exact c
  ·have:=Zp (show 0<=fac p-1 by grind) (Z5 d)
   grind
 ·intro z;have:=Zq (show 0<1-fac p by grind) d
  grind
theorem qh{v g:V}(l:v≠g)(o:∀j,j<N->x j<=xr (wy (h j)) v)(q:∀j,j<N->x j<=xr (wy (h j)) g):∀(m n:Nat) (J:Nat->Nat) (t:Rat),n<=m->t<=1->Lst h x N n J t->Ea h x N (finP h x m n J).1 (finP h x m n J).2.1 (finP h x m n J).2.2.1 (finP h x m n J).2.2.2
 |0,n,J,t,u,r,L=>by have:=L.ok.three;omega
 |m+1,n,J,t,u,r,L=>by
  obtain⟨k,p,X⟩:=L.next l o q
  unfold finP;simp only[X.ear,X.cl,Km];by_cases d:p.1<p.2
  ·rw[if_pos d];have e:=(qg X.pos).mp d;by_cases f:0<=CJ (h (J (nx n k))) (h (J (pv n k)))
   ·rw[if_pos f];show Ea h x N true n J k;unfold Ea;rw[if_pos rfl];exact⟨p,X.finS L f,e⟩
   ·rw[if_neg f];obtain⟨L2,B⟩:=X.drop L vB
    exact qh l o q m (n-1) _ _ vB (Z5 e) L2
  ·rw[if_neg d];have e:1<=fac p:=by
    have:=λz=>d ((qg X.pos).mpr z)
    grind
   show Ea h x N false n J k;unfold Ea;rw[if_neg vA];refine⟨⟨L.ok.three,L.ok.srt,L.ok.bend,λi s=>?_⟩,L.mono,L.lt,λy w=>L.back 1 y r w⟩
   have a:=L.ok.lens i s;have b:=X.ok.lens i s;rw[gQ] at a b |-;generalize tp (λi=>wy (h (J i))) (λi=>x (J i)) n i=A at *;generalize tp (λi=>wy (h (J i))) (λi=>((h (J i)).2.2:Rat)) n i=C at *;by_cases z:0<=A
   ·have:=Zp (show 0<=fac p-1 by grind) z
    grind
   ·have:=Zp (show 0<=1-t by grind) (show 0 <= -A by grind)
    grind
end
open Mg Fi Sf
open Sf
open Mg Fi PySem
section
variable{Γ:Nat->∅}
def xR{r:List V}{h:H3}(g:0<r.length)(b:Hb h)(d:SyL 600 600 r):Sy 1292 1202 (EE r h):=by
 obtain⟨_,q,f,e⟩:=cv g h
 rw[e,fB];exact((Du b.a).mul (d q f).1).add ((Du b.b).mul (d q f).2) (k:=1291) vA vA
def Bd2.sy{l r:List V}(T:Bd2 l r)(i:Nat):Sy 1292 1202 (xS l r i):=xR T.pr (T.hb i) T.zr
def xT{a s:PySem.Addr}{p t:Int}{h d:H3}{x g:Rat}{u j:D}(b:Hb h)(i:Hb d)(z:Sy 1292 1202 x)(v:Sy 1292 1202 g)(L:CJ h d≠0):
  dI [bD a p h x u,bD s t d g j,fr 1]=some (.val (CC (Fi.mt (wy h) (wy d) ((h.2.2:Rat)-1*x) ((d.2.2:Rat)-1*g)))):=by
 have one:Sz 1 (1:Rat):=⟨by decide,by decide⟩;have M:Sz 150 (h.2.2:Rat):=dc b.c vA;have N:Sz 150 (d.2.2:Rat):=dc i.c vA;have w:Sz 1292 x:=z.sz vA vA;have l:Sz 1292 g:=v.sz vA vA;have A:Sy 90 1 (h.1:Rat):=Du b.a;have B:Sy 90 1 (d.1:Rat):=Du i.a;have C:Sy 90 1 (h.2.1:Rat):=Du b.b;have E:Sy 90 1 (d.2.1:Rat):=Du i.b;have O:=pR (a:=a) (p:=p) (cl:=u) M one w vA vA vA ((one.mul w).mono vA);have P:=pR (a:=s) (p:=t) (cl:=j) N one l vA vA vA ((one.mul l).mono vA);have o:Sy 1353 1203 ((h.2.2:Rat)-1*x):=by rw[Kz];exact(Du b.c).sub z (k:=1352) vA vA
 have q:Sy 1353 1203 ((d.2.2:Rat)-1*g):=by rw[Kz];exact(Du i.c).sub v (k:=1352) vA vA
 have F:Sz 181 ((CJ h d:Int):Rat):=dc (bY b i) vA;have G:((CJ h d:Int):Rat)≠0:=λy=>L (Qi.mp y)
 have em:Fi.mt (wy h) (wy d) ((h.2.2:Rat)-1*x) ((d.2.2:Rat)-1*g)=(((d.2.1:Rat)*((h.2.2:Rat)-1*x)-(h.2.1:Rat)*((d.2.2:Rat)-1*g))/(CJ h d:Rat),((h.1:Rat)*((d.2.2:Rat)-1*g)-(d.1:Rat)*((h.2.2:Rat)-1*x))/(CJ h d:Rat)):=by
  unfold Fi.mt;rw[bO,Ki,Ki];unfold wy;exact Yt (by dsimp only;grind) (by dsimp only;grind)
 rw[em];unfold dI;generalize e:tab [(10,bB),(11,bw),(20,cY),(81,bR),(99,cG)]=Γ;clear em;generalize Q:(h.2.2:Rat)-1*x=m at *;generalize R:(d.2.2:Rat)-1*g=n at *;have H:=E.mul o;have I:=C.mul q;have J:=A.mul q;have K:=B.mul o;have S:Sz 2700 ((d.2.1:Rat)*m-(h.2.1:Rat)*n):=(H.sub I (k:=2647) vA vA).sz vA vA;have T:Sz 2700 ((h.1:Rat)*n-(d.1:Rat)*m):=(J.sub K (k:=2647) vA vA).sz vA vA;have f:∀{a b:Nat}{y:Rat},Sy a b y->a<=4400->b<=4400->Sz 4400 y:=λU V W=>U.sz V W
 refine xa (h10:=by rw[<-e];rfl) (h11:=by rw[<-e];rfl) (h20:=by rw[<-e];rfl) (h81:=by rw[<-e];rfl) (h99:=by rw[<-e];rfl) (E1:=fr m) (E2:=fr n) (r:=CJ h d) rfl rfl (X:=fr ((d.2.1:Rat)*m-(h.2.1:Rat)*n)) (Y:=fr ((h.1:Rat)*n-(d.1:Rat)*m)) rfl rfl O P (jE (b.hb vA) (i.hb vA))
  (bz (x:=(d.2.1:Rat)) (Br (f E vA vA) (f o vA vA) vA vA)) (bz (x:=(h.2.1:Rat)) (Br (f C vA vA) (f q vA vA) vA vA)) (bz (Br (f H vA vA) (f I vA vA) vA vA))
  (bz (x:=(h.1:Rat)) (Br (f A vA vA) (f q vA vA) vA vA)) (bz (x:=(d.1:Rat)) (Br (f B vA vA) (f o vA vA) vA vA)) (bz (Br (f J vA vA) (f K vA vA) vA vA))
  (bz (y:=((CJ h d:Int):Rat)) ?_) (bz (y:=((CJ h d:Int):Rat)) ?_)
 ·rw[Br S F vA vA,decide_eq_true G];rfl
 ·rw[Br T F vA vA,decide_eq_true G];rfl
def gY:∅:=run (tab [(98,dI)]) ft 2
def ok_meetings(e:Γ 98=dI):∀d w,d.length=2->gY d=some w->run Γ ft 2 d=some w:=λd w _ h=>bq [(98,dI)] (λp f=>by
 simp only[Zf,Zk,or_false] at f;subst f;exact e) vA d w h
def xU{d:∅}(e:Γ 98=d){L:List D}{T A B M:D}{k:Int}(f:lf M=true)(g:L2.atI L (k-1)=some A)(h:L2.atI L k=some B)(q:d [A,B,T]=some (.val M)):
  d3 Γ (.call 98 #v[.ix (.var 2) (.bin .sub (.var 1) (.int 1)),.ix (.var 2) (.var 1),.var 3]) (.name 1) 2 [0,1] .non [some (.lst L),some T] (.int k)=some (some M):=by
 walk_at "evh"
def xW{L R:List D}{T:D}(c:ev Γ (.comp (.call 98 #v[.ix (.var 2) (.bin .sub (.var 1) (.int 1)),.ix (.var 2) (.var 1),.var 3]) (.name 1) (.range1 (.bi .len #v[.var 0])) 2 [0,1] .non) [some (.lst L),some T]=some (.new R)):run Γ ft 2 [.lst L,T]=some (.new R):=by
 unfold ft;walk_at "evh"
def Hv{L:List D}{T:D}{n:Nat}(d:(L.length:Int)=(n:Int))(f:n<=1000):evW Γ (.range1 (.bi .len #v[.var 0])) [some (.lst L),some T]=some (Bv 0 n):=by
 have e:evd Γ (.bi .len #v[.var 0]) [some (.lst L),some T]=some (.int (n:Int)):=by walk_at "evh"
 rw[iZ,e,Zv,iX,Zv,if_pos ⟨by omega,by omega⟩,Zz]
def Ef{n:Nat}:Bv 0 n=(List.range n).map λ(k:Nat)=>D.int (k:Int):=by
 have:=pI n
 rw[Zz] at this;rw[this];exact Y5 λk _=>by rw[Ux]
def xX{e:∅}(d:Γ 98=e){f:Nat->D}{g:Nat->V}{n k:Nat}{T:D}(h:k<n)(q:e [f (pv n k),f k,T]=some (.val (CC (g k)))):
  d3 Γ (.call 98 #v[.ix (.var 2) (.bin .sub (.var 1) (.int 1)),.ix (.var 2) (.var 1),.var 3]) (.name 1) 2 [0,1] .non [some (.lst ((List.range n).map f)),some T] (.int (k:Int))=some (some (CC (g k))):=by
 refine xU d rfl (dq (bL h) ?_) (dq h (.inl rfl)) q;unfold pv;split<;>omega
def xY{e:∅}(d:Γ 98=e){f:Nat->D}{g:Nat->V}{n:Nat}{T:D}(l:n<=1000)(q:∀i,i<n->e [f (pv n i),f i,T]=some (.val (CC (g i)))):run Γ ft 2 [.lst ((List.range n).map f),T]=some (.new ((List.range n).map λk=>CC (g k))):=by
 refine xW ?_;have m:((List.range n).map λ(k:Nat)=>D.int (k:Int)).length<=PySem.sizeLine:=by
  have:(1000:Nat)<=PySem.sizeLine:=by decide
  rw[Zc,Z3];omega
 rw[iY,Hv (n:=n) (by rw[Zc,Z3]) l,Ef,Zv,if_pos ⟨m,rfl⟩,i0 (h:=λk=>CC (g k)) (λk j=>xX d (Ym.mp j) (q k (Ym.mp j)))];rfl
def xZ{f:Nat->D}{g:Nat->V}{n:Nat}{T:D}(d:n<=1000)(q:∀i,i<n->dI [f (pv n i),f i,T]=some (.val (CC (g i)))):gY [.lst ((List.range n).map f),T]=some (.new (((List.range n).map g).map CC)):=by
 rw[Yg];exact xY gn d q
end
open Sf
open Mg Fi PySem
section
variable{Γ:Nat->∅}
def jX{d d1:D}{e:Option D}{f:List (Addr×List D)}:CL (rF d d1 e 1) 2 f=[some d,some d1,some (.lst (Dg f)),e,none]:=rfl
def qi{d:∅}(e:Γ 95=d){f d1:D}{g:Option D}{L:List D}{k:D}(h:d [.lst L]=some (.val k)):ev Γ o_pushes.1 [some f,some d1,some (.lst L),g,none]=some (.val k):=by
 unfold o_pushes;dsimp only;walk_at "evh"
def x5{e:∅}(f:Γ 21=e){g d1:D}{k:Int}{L:List D}{A:Addr}{P S X C:D}{b:Bool}(a:L2.atI L k=some (.obj A [P,S,X,C]))(h:e [C,.tup [.int 1,.int 1]]=some (.val (.bl b))):((ev Γ o_pushes.2.1 [some g,some d1,some (.lst L),some (.int k),none]).map W.d).bind bp=some b:=by
 unfold o_pushes;dsimp only;walk_at "evh"
def x8{e:∅}(f:Γ 96=e){g d1:D}{k:Int}{L:List D}{b:Bool}(h:e [.lst L,.int k]=some (.val (.bl b))):((ev Γ o_pushes.2.2.1 [some g,some d1,some (.lst L),some (.int k),none]).map W.d).bind bp=some b:=by
 unfold o_pushes;dsimp only;walk_at "evh"
abbrev mr:E:=(.comp (.var 2) (.tup [1,2]) (.enum (.var 4)) 3 [4] (.som (.cmp .notin (.var 2) (.sl (.var 3) .non (.som (.var 1))))))
def x9{d:∅}(e:Γ 100=d){f d1:D}{L R O:List D}{k:Int}(q:d [.lst L,.tup [.int 1,.int 1]]=some (.new R))(g:lfL R=true)(c:ev Γ mr [some f,some d1,some (.lst L),some (.int k),some (.lst R)]=some (.new O)):
  exs Γ o_pushes.2.2.2 [~~~f,~~~d1,~~~.lst L,~~~.int k,none]=some (.rt (.new O)):=by
 unfold mr at c;unfold o_pushes;dsimp only;walk_at "evh"
def Dc(l:List V):List V:=(l.zipIdx.filter λp=>decide (p.1∉l.take p.2)).map (·.1)
def qj(q:V)(l:List V):CI .notin (CC q) (.lst (l.map CC))=some (decide (q∉l)):=by
 rw[kW,if_pos (by rw[gL l];rfl)];congr 1
 rw[List.any_map];by_cases h:q∈l
 ·rw[decide_eq_false (λz=>z h)];have:l.any ((λy=>eqD y (CC q)) ∘ CC)=true:=G6.mpr ⟨q,h,gK 50 _ rfl⟩
  rw[this];rfl
 ·rw[decide_eq_true h];have:l.any ((λy=>eqD y (CC q)) ∘ CC)=false:=by
   rw[Ji];intro z;obtain⟨y,d,e⟩:=G6.mp z
   exact h (jM e ▸ d)
  rw[this];rfl
theorem qk{d:Type}{f:D->Option (Option D)}{g h:d->D}{p:d->Bool}:∀{l:List d},(∀x∈l,f (g x)=some (if p x=true then some (h x) else none))->bG f (l.map g)=some ((l.filter p).map h)
 |[],_=>rfl
 |x::l,e=>by
  rw[Zy];unfold bG;rw[e x (.head _),qk λy i=>e y (.tail _ i)];by_cases q:p x=true
  ·rw[if_pos q,List.filter_cons_of_pos q];rfl
  ·rw[if_neg q,List.filter_cons_of_neg q]
def ya{d e f g:Option D}{L:List D}{S:D}{i:Int}{C:List D}{b:Bool}(h:lf S=true)(ct:cutD L none (some i)=C)(j:CI .notin S (.lst C)=some b):
  d3 Γ (.var 2) (.tup [1,2]) 3 [4] (.som (.cmp .notin (.var 2) (.sl (.var 3) .non (.som (.var 1))))) [d,e,f,g,some (.lst L)] (.tup [.int i,S])=some (if b=true then some S else none):=by
 cases b
 ·walk_at "evh"
 ·walk_at "evh"
def HF{d f g j:Option D}{l:List V}(r:l.length<=1000):ev Γ mr [d,f,g,j,some (.lst (l.map CC))]=some (.new ((Dc l).map CC)):=by
 have e:evW Γ (.enum (.var 4)) [d,f,g,j,some (.lst (l.map CC))]=some (l.zipIdx.map λp=>D.tup [.int (p.2:Int),CC p.1]):=by
  have:evW Γ (.enum (.var 4)) [d,f,g,j,some (.lst (l.map CC))]=some (bK (l.map CC)):=by simp only[evW,ev];rfl
  rw[this];unfold bK;rw[List.zipIdx_map,Yg];rfl
 have n:(l.zipIdx.map λp=>D.tup [.int (p.2:Int),CC p.1]).length<=PySem.sizeLine:=by
  have:(1000:Nat)<=PySem.sizeLine:=by decide
  rw[Zc,W6];omega
 rw[iY,e,Zv,if_pos ⟨n,rfl⟩,qk (p:=λp=>decide (p.1∉l.take p.2)) (h:=λp=>CC p.1) (λp o=>?_)]
 ·unfold Dc;rw[Yg];rfl
 ·have m:p.2<=(l.map CC).length:=by
   obtain⟨i,m,e⟩:=Qf o
   rw[W6] at m;rw[<-e,J3,Zc];simp only
   omega
  have q:cutD (l.map CC) none (some (p.2:Int))=(l.take p.2).map CC:=by
   rw[lX m,Ug]
  exact ya rfl q (qj _ _)
section
variable{A:Nat->Addr}{h:Nat->H3}{x:Nat->Rat}{N n:Nat}{J:Nat->Nat}
theorem ql(w:Γ 95=dJ)(B:Γ 96=dH)(C:Γ 21=bN)(q:∀i,Hb (h i))(u:∀i,Sz 2000 (x i)){v R:V}(S:v≠R)(U:∀j,j<N->x j<=xr (wy (h j)) v)(E:∀j,j<N->x j<=xr (wy (h j)) R){d0 d1:D}:∀(m n:Nat) (J:Nat->Nat) (t:Rat),n<=m->n<=1000->Lst h x N n J t->(∀i j,i<n->j<n->A (J i)=A (J j)->i=j) ->
  ∃(g:Nat->List (Addr×List D)) (r:Nat->Int) (T:Nat),g 0=CW A h x n J/\r 0=(((ear (CT h x n J) n).getD 0:Nat):Int)/\Lps Γ Ic d0 d1 1 o_pushes.1 g r T/\(∀j,j<=T->((ev Γ o_pushes.2.1 (CL (rF d0 d1 (some (.int (r j))) 1) 2 (g j))).map W.d).bind bp=some (decide (j<T) || (finP h x m n J).1)) /\
   (∀j,j<=T->(j<T\/(finP h x m n J).1=true)->((ev Γ o_pushes.2.2.1 (CL (rF d0 d1 (some (.int (r j))) 1) 2 (g j))).map W.d).bind bp=some (!decide (j<T))) /\
   g T=CW A h x (finP h x m n J).2.1 (finP h x m n J).2.2.1/\r T=((finP h x m n J).2.2.2:Int)
 |0,n,J,t,hm,K,L,inj=>by have:=L.ok.three;omega
 |m+1,n,J,t,hm,K,L,inj=>by
  obtain⟨k,p,X⟩:=L.next S U E
  have n3:=L.ok.three;obtain⟨z1,z2⟩:=pY (q _) (q _) (q _) (u _) (u _) (u _) X.cl
  have M:∀o,ev Γ o_pushes.1 (CL (rF d0 d1 o 1) 2 (CW A h x n J))=some (.val (.int (k:Int))):=λo=>by
   have:=qa (A:=A) (J:=J) q u K
   rw[X.ear] at this;rw[jX];exact qi w this
  have O:L2.atI (Dg (CW A h x n J)) (k:Int)=some (.obj (A (J k)) [.int (J k:Int),hD (h (J k)),fr (x (J k)),.tup [.int p.1,.int p.2]]):=by
   unfold CW;rw[eu,dq (f:=λi=>bD (A (J i)) (J i:Int) (h (J i)) (x (J i)) (C4 (CT h x n J i))) X.lt (.inl rfl),X.cl];rfl
  have Y:=pS (a:=p.1) (b:=p.2) (c:=1) (d:=1) (Bf z1 (show(1:Int).natAbs<2^1 by decide) vA vA) (Bf (show(1:Int).natAbs<2^1 by decide) z2 vA vA);rw[Ue,Gh] at Y;have F:((ev Γ o_pushes.2.1 (CL (rF d0 d1 (some (.int (k:Int))) 1) 2 (CW A h x n J))).map W.d).bind bp=some (decide (p.1<p.2)):=by
   rw[jX];exact x5 C O Y
  have ee:((ev Γ o_pushes.2.2.1 (CL (rF d0 d1 (some (.int (k:Int))) 1) 2 (CW A h x n J))).map W.d).bind bp=some (decide (0<=CJ (h (J (nx n k))) (h (J (pv n k))))):=by
   rw[jX];exact x8 B (xF (A:=A) (J:=J) (x:=x) q X.lt vB)
  unfold finP;simp only[X.ear,X.cl,Km];by_cases H:p.1<p.2
  ·rw[if_pos H];rw[decide_eq_true H] at F;by_cases I:0<=CJ (h (J (nx n k))) (h (J (pv n k)))
   ·rw[if_pos I];rw[decide_eq_true I] at ee;refine⟨λ_=>CW A h x n J,λ_=>(k:Int),0,rfl,rfl,⟨λ_ _ o=>M o,λj l=>by omega,λj l=>by omega⟩,λj l=>?_,λj l _=>?_,rfl,rfl⟩
    ·have:j=0:=by omega
     subst this;exact F
    ·have:j=0:=by omega
     subst this;exact ee
   ·rw[if_neg I];rw[decide_eq_false I] at ee;obtain⟨L2,n4⟩:=X.drop L vB
    have G:∀i j,i<n-1->j<n-1->A (J (er k i))=A (J (er k j))->i=j:=λi j P l e=>by
     have:=inj _ _ (bQ X.lt P) (bQ X.lt l) e
     unfold er at this;split at this<;>split at this<;>omega
    obtain⟨g,r,T,Z,k0,lp,ts,es,oT,kT⟩:=ql w B C q u S U E (d0:=d0) (d1:=d1) m (n-1) (λi=>J (er k i)) _ vB vB L2 G
    refine⟨λj=>match j with|0=>CW A h x n J|j+1=>g j,λj=>match j with|0=>(k:Int)|j+1=>r j,T+1,rfl,rfl,⟨λj l o=>?_,λj l=>?_,λj l a s=>?_⟩,λj l=>?_,λj l Q=>?_,oT,kT⟩
    ·cases j with
     |zero=>exact M o
     |succ j=>exact lp.ke j vB o
    ·cases j with
     |zero=>
      show Ic (CW A h x n J) (k:Int) (g 0);rw[Z];exact⟨A,h,x,n,J,k,q,u,n3,K,X.lt,inj,rfl,rfl,rfl⟩
     |succ j=>exact lp.th j vB
    ·cases j with
     |zero=>
      have s:a∈(g 0).map (·.1):=s;show a∈(CW A h x n J).map (·.1);rw[Z] at s;unfold CW C6 at s;rw[Yg] at s;obtain⟨i,P,e⟩:=Zt.mp s
      rw[<-e];exact jS (bQ X.lt (Ym.mp P))
     |succ j=>exact lp.sb j vB a s
    ·cases j with
     |zero=>rw[decide_eq_true (K7 T),Bool.true_or];exact F
     |succ j=>
      have:=ts j vB
      rw[show decide (j+1<T+1)=decide (j<T) from decide_eq_decide.mpr vB];exact this
    ·cases j with
     |zero=>rw[decide_eq_true (K7 T)];exact ee
     |succ j=>
      have:=es j vB (Q.imp (λz=>by omega) id)
      rw[show decide (j+1<T+1)=decide (j<T) from decide_eq_decide.mpr vB];exact this
  ·rw[if_neg H];rw[decide_eq_false H] at F;refine⟨λ_=>CW A h x n J,λ_=>(k:Int),0,rfl,rfl,⟨λ_ _ o=>M o,λj l=>by omega,λj l=>by omega⟩,λj l=>?_,λj l Q=>?_,rfl,rfl⟩
   ·have:j=0:=by omega
    subst this;exact F
   ·rcases Q with z|z
    ·omega
    ·cases z
end
end
open Sf
open Mg Fi PySem
section
variable{Γ:Nat->∅}
def CG(l r:List V):Bool×Nat×(Nat->Nat)×Nat:=finP (hS l) (xS l r) l.length l.length λi=>i
noncomputable def Eg(l r:List V)(n:Nat)(J:Nat->Nat)(i:Nat):V:=Fi.mt (wy (hS l (J (pv n i)))) (wy (hS l (J i))) (((hS l (J (pv n i))).2.2:Rat)-1*xS l r (J (pv n i))) (((hS l (J i)).2.2:Rat)-1*xS l r (J i))
def Dr(l r:List V):List V:=if (CG l r).1=true then [] else Dc ((List.range (CG l r).2.1).map (Eg l r (CG l r).2.1 (CG l r).2.2.1))
def eG{l r:List V}(T:Bd2 l r):Ea (hS l) (xS l r) l.length (CG l r).1 (CG l r).2.1 (CG l r).2.2.1 (CG l r).2.2.2:=by
 have e:=T.hr.three;have d:0<r.length:=by omega
 exact qh (gR (nodup T.hr) vB 0) (λj _=>(cv d _).1 _ (Bs d _)) (λj _=>(cv d _).1 _ (Bs d _)) _ _ _ _ (Zn _) vA (jP T.hl _)
def yb(m:Γ 95=dJ)(B:Γ 96=dH)(C:Γ 21=bN)(o:Γ 100=gY){l r:List V}(T:Bd2 l r):
  jq Γ Xi Ic 1 o_pushes.1 o_pushes.2.1 o_pushes.2.2.1 o_pushes.2.2.2 (.lst (l.map CC)) (.lst (r.map CC)) (.new ((Dr l r).map CC)):=by
 have Y:=T.fl;have E:=T.hl.three;have Z:=T.hr.three;have p:0<r.length:=by omega
 have s:∀d:List (Addr×List D),d.map (·.2)=EF l r (λi=>C4 (CT (hS l) (xS l r) l.length (λi=>i) i))->(d.map (·.1)).Nodup->∃A:Nat->Addr,d=CW A (hS l) (xS l r) l.length (λi=>i)/\∀i j,i<l.length->j<l.length->A i=A j->i=j:=λd e t=>by
  have I:(d.map (·.1)).length=l.length:=by
   have:=congrArg List.length e
   unfold EF at this;rw[Zc,Zc,Z3] at this;rw[Zc];exact this
  obtain⟨K,_⟩:∃a,(d.map (·.1))[0]? = some a:=⟨(d.map (·.1))[0]'vB,Zj _⟩
  refine⟨λi=>(d.map (·.1)).getD i K,os_eq ?_ ?_,λi j v hj z=>p9 t vB vB z⟩
  ·unfold CW C6;rw[Yg,<-I];exact rng_getD.symm
  ·rw[e];unfold CW C6 EF;rw[Yg];rfl
 have w:∀q,q∈r->∀j,j<l.length->xS l r j<=xr (wy (hS l j)) q:=λq L j _=>(cv p _).1 q L
 refine⟨_,(((ear (CT (hS l) (xS l r) l.length λi=>i) l.length).getD 0:Nat):Int),⟨l,r,T,rfl,rfl,rfl⟩,λd e t=>?_,λd e t=>?_⟩
 ·obtain⟨A,F,inj⟩:=s d e t
  subst F;have:=qa (A:=A) (n:=l.length) (J:=λi=>i) T.hb T.sx vB
  obtain⟨k',p',X⟩:=(jP T.hl (xS l r)).next (gR (nodup T.hr) vB 0) (w _ (Bs p _)) (w _ (Bs p _))
  rw[X.ear] at this |-;rw[jX];exact qi m this
 ·obtain⟨A,F,inj⟩:=s d e t
  subst F;obtain⟨G,M,N,O,P,lp,Q,R,S,U⟩:=ql (Γ:=Γ) (A:=A) (d0:=.lst (l.map CC)) (d1:=.lst (r.map CC)) m B C T.hb T.sx (gR (nodup T.hr) vB 0) (w _ (Bs p _)) (w _ (Bs p _)) l.length l.length (λi=>i) 0 (Zn _) vB (jP T.hl (xS l r)) inj
  refine⟨G,M,N,(CG l r).1,O,P,lp,Q,R,?_⟩
  have h:=eG T;unfold Dr;by_cases u:(CG l r).1=true
  ·rw[if_pos u,if_pos u];rfl
  ·rw[if_neg u,if_neg u];unfold Ea at h;rw[if_neg u] at h;rw[S,U];show exs Γ o_pushes.2.2.2 [~~~_,~~~_,~~~.lst (Dg (CW A (hS l) (xS l r) (CG l r).2.1 (CG l r).2.2.1)),~~~.int _,none]=_;generalize (CG l r).2.1=n at *;generalize (CG l r).2.2.1=J at *;have n3:=h.ok.three;have nl:n<=60:=by
    have:∀i,i<n->i<=J i:=λi=>by
     induction i with
     |zero=>intro _;omega
     |succ i W=>intro v;have:=h.mono i (i+1) vB v;have:=W vB;omega
    have a:=this (n-1) vB;have b:=h.lt (n-1) vB;omega
   have H:=xZ (f:=λi=>bD (A (J i)) (J i:Int) (hS l (J i)) (xS l r (J i)) (C4 (CT (hS l) (xS l r) n J i))) (g:=Eg l r n J) (n:=n) (T:=fr 1) vB (λi v=>xT (T.hb _) (T.hb _) (T.sy _) (T.sy _) (by
    have:=h.ok.bendp v
    have this:0<xr (wy (hS l (J (pv n i)))) (wy (hS l (J i))):=this;rw[bO,show(0:Rat)=((0:Int):Rat) from rfl,Yb] at this;omega))
   unfold CW;rw[eu];exact x9 o H (bW _) (HF (by rw[Zc,Z3];omega))
def Lf(d:List D)(w:W):Prop:=∃l r,Bd2 l r/\d=[.lst (l.map CC),.lst (r.map CC)]/\w=.new ((Dr l r).map CC)
open Classical in
def eH(d:List D):Option W:=if h:∃w,Lf d w then some h.choose else none
def yc(g:Γ 95=dJ)(i:Γ 96=dH)(j:Γ 21=bN)(d:Γ 100=gY):∀m d1 n,eH [m,d1]=some n->jq Γ Xi Ic 1 o_pushes.1 o_pushes.2.1 o_pushes.2.2.1 o_pushes.2.2.2 m d1 n:=λm d1 n h=>by
 unfold eH at h;split at h
 ·next z=>
  obtain⟨l,r,T,e,p⟩:=z.choose_spec
  have f:=Zs h;rw[p] at f;subst f;injection e with q o
  injection o with o _
  rw[q,o];exact yb g i j d T
 ·cases h
def yd{l r:List V}(T:Bd2 l r):eH [.lst (l.map CC),.lst (r.map CC)]=some (.new ((Dr l r).map CC)):=by
 have ex:∃w,Lf [.lst (l.map CC),.lst (r.map CC)] w:=⟨_,l,r,T,rfl,rfl⟩;unfold eH;rw[dif_pos ex];obtain⟨h,i,j,e,g⟩:=ex.choose_spec
 injection e with f d
 injection d with d _
 injection f with f
 injection d with d
 have:=mh f
 have:=mh d
 subst_vars
 rw[g]
def ye{l r:List V}(T:Bd2 l r)(h:(CG l r).1=true):∀u,¬ ∀q∈r,Er l (sp 1 u q):=λu i=>by
 have f:=eG T;unfold Ea at f;rw[if_pos h] at f;obtain⟨p,F,m⟩:=f
 obtain⟨S,_,C⟩:=xt F T.hb
 have:=C.max F.fac (P:=l) (λj d q g=>qe T.hl g j d) (λj d=>Hk T.hl d) (s:=1) (u:=u) λj d=>by
  obtain⟨_,q,g,e⟩:=cv T.pr (hS l j)
  have:=i q g j d
  rw[eD] at this;show _<=1*EE r (hS l j)+_;rw[e];exact this
 grind
def yf{l r:List V}(T:Bd2 l r)(h:(CG l r).1=false){i:Nat}(e:i<(CG l r).2.1):∀q∈r,Er l (sp 1 (Eg l r (CG l r).2.1 (CG l r).2.2.1 i) q):=λq f j g=>by
 have d:=eG T;unfold Ea at d;rw[if_neg (by rw[h];decide)] at d;have a:=d.back (Eg l r (CG l r).2.1 (CG l r).2.2.1 i) (λk m=>d.ok.keeps i k e m) j g;have b:xS l r j<=xr (wy (hS l j)) q:=(cv T.pr (hS l j)).1 q f;rw[eD];grind
def KL{l:List V}(h:l≠[]):Dc l≠[]:=by
 cases l with
 |nil=>exact absurd rfl h
 |cons a l=>
  unfold Dc;intro z;have:((a,0):V×Nat)∈((a::l).zipIdx.filter λp=>decide (p.1∉(a::l).take p.2)):=Ku.mpr ⟨by rw[Uu];exact .head _,by simp⟩
  rw[List.map_eq_nil_iff.mp z] at this;cases this
def IW{l r:List V}(T:Bd2 l r)(h:(CG l r).1=false):Dr l r≠[]:=by
 have d:=eG T;unfold Ea at d;rw[if_neg (by rw[h];decide)] at d;have e:=d.ok.three;unfold Dr;rw[if_neg (by rw[h];decide)];refine KL λz=>?_;have:=congrArg List.length z
 rw[Zc,Z3] at this;simp only[Kv] at this;omega
end
open Sf
open Mg Fi PySem
def DK{x d:Int}:Rat.divInt x d=(x:Rat)*(d:Rat)⁻¹:=by rw[Kj,Ki]
open Sf
open Mg Fi PySem
section
variable{Γ:Nat->∅}
def B8:∅:=run (tab [(103,bJ)]) Bx 2
def ok_law_timesR(d:Γ 103=bJ):∀e w,e.length=2->B8 e=some w->run Γ Bx 2 e=some w:=λe w _ h=>bq [(103,bJ)] (λp f=>by
 simp only[Zf,Zk,or_false] at f;subst f;exact d) vA e w h
def JM{x y:Rat}{m n:Nat}(d:Sz m x)(e:Sz n y)(f:m<=4400)(g:n<=4400):B8 [fr x,fr y]=some (.val (fr (x*y))):=pJ (Γ:=tab [(103,bJ)]) gn _ _ rfl (gX d e f g)
def qm{φ:∅}(e:Γ 103=φ){a b c d:Int}{R:D}(o1:Bk a c=true)(o2:Bk b d=true)(q:φ [.int (a*c),.int (b*d)]=some (.val R)):run Γ Bx 2 [.tup [.int a,.int b],.tup [.int c,.int d]]=some (.val R):=by
 unfold Bx;walk_at "evh"
def ltP{x:Rat}{c d:Int}(f:Sz 420 x)(h:c.natAbs<2^40)(g:d.natAbs<2^40)(i:0<d):B8 [fr x,.tup [.int c,.int d]]=some (.val (fr (x*Rat.divInt c d))):=by
 have j:(0:Int)<(x.den:Int):=K5.mpr x.den_pos;have q:=fw (t:=x.num*c) (b:=(x.den:Int)*d) (Wh j i) (Zg (pG (EJ f) g (k:=460) vA) (Bm vA));have e:Rat.divInt (x.num*c) ((x.den:Int)*d)=x*Rat.divInt c d:=by
  conv=>rhs;lhs;rw[pH x]
  rw[Qs]
 rw[e] at q;exact qm (Γ:=tab [(103,bJ)]) (φ:=bJ) gn (Bf f.t h vA vA) (Bf (EJ f) g vA vA) q
end
open Sf
open Mg Fi PySem
section
variable{Γ:Nat->∅}
end
open Sf
open Mg Fi PySem
section
variable{h:Nat->H3}{x:Nat->Rat}{N:Nat}
theorem qo{v d:V}(e:v≠d)(f:∀j,j<N->x j<=xr (wy (h j)) v)(g:∀j,j<N->x j<=xr (wy (h j)) d):∀(m n:Nat) (J:Nat->Nat) (t:Rat),n<=m->Lst h x N n J t->Span (λi=>wy (h ((finP h x m n J).2.2.1 i))) (finP h x m n J).2.1
 |0,n,J,t,q,L=>by have:=L.ok.three;omega
 |m+1,n,J,t,q,L=>by
  obtain⟨k,p,X⟩:=L.next e f g
  unfold finP;simp only[X.ear,X.cl,Km];by_cases l:p.1<p.2
  ·rw[if_pos l];by_cases o:0<=CJ (h (J (nx n k))) (h (J (pv n k)))
   ·rw[if_pos o];exact L.span
   ·rw[if_neg o];obtain⟨L2,r⟩:=X.drop L vB
    exact qo e f g m (n-1) _ _ vB L2
  ·rw[if_neg l];exact L.span
end
def yg{l r:List V}(T:Bd2 l r):Span (λi=>wy (hS l ((CG l r).2.2.1 i))) (CG l r).2.1:=by
 have e:=T.hr.three;have d:0<r.length:=by omega
 exact qo (gR (nodup T.hr) vB 0) (λj _=>(cv d _).1 _ (Bs d _)) (λj _=>(cv d _).1 _ (Bs d _)) _ _ _ _ (Zn _) (jP T.hl _)
def yh{s:Nat->Rat}{n:Nat}{a b:Nat}(g:a<n)(d:b<n)(h:0<s a)(l:s b<=0):∃i,i<n/\0<s (pv n i)/\s i<=0:=by
 have f:∀k,k<=n->0<s ((a+k)%n)\/∃i,i<n/\0<s (pv n i)/\s i<=0:=by
  intro k;induction k with
  |zero=>intro _;left;rw[Nat.add_zero,Zh g];exact h
  |succ k j=>
   intro m;rcases j vB with z|z
   ·by_cases c:0<s ((a+(k+1))%n)
    ·exact .inl c
    ·refine .inr ⟨(a+(k+1))%n,Wi _ vB,?_,Rat.not_lt.mp c⟩;have e:pv n ((a+(k+1))%n)=(a+k)%n:=by
      have lt:=Wi (a+k) (show 0<n by omega);have:(a+(k+1))%n=((a+k)%n+1)%n:=by rw[W4];rfl
      rw[this,<-jD lt,eh lt]
     rw[e];exact z
   ·exact .inr z
 by_cases c:a<=b
 ·rcases f (b-a) vB with z|z
  ·rw[show a+(b-a)=b by omega,Zh d] at z;grind
  ·exact z
 ·rcases f (n-a+b) vB with z|z
  ·rw[show a+(n-a+b)=b+n by omega,Yo,Zh d] at z;grind
  ·exact z
def Mc{D:Nat->V}{n:Nat}(S:Span D n){d:V}(g:d≠(0,0)):∃i,i<n/\0<xr (D (pv n i)) d/\xr (D i) d<=0:=by
 have pos:∃a,a<n/\0<xr (D a) d:=by
  apply Y0
  intro e;refine g ?_;have z:=S (ng d) λi f=>by
   have:¬0<xr (D i) d:=λz=>e ⟨i,f,z⟩
   rw[lN];grind
  have h:=congrArg Prod.fst z;have j:=congrArg Prod.snd z;unfold ng at h j;simp only at h j
  exact Yt (by dsimp only;grind) (by dsimp only;grind)
 have neg:∃b,b<n/\xr (D b) d<=0:=by
  apply Y0
  intro e;refine g (S d λi f=>?_);have:¬xr (D i) d<=0:=λz=>e ⟨i,f,z⟩
  grind
 obtain⟨a,l,m⟩:=pos
 obtain⟨b,o,p⟩:=neg
 exact yh (s:=λi=>xr (D i) d) l o m p
def yi{D:Nat->V}{c l:Nat->Rat}{n:Nat}{t:Rat}(O:Ok D c l n t)(S:Span D n){d:V}(h:d≠(0,0)):∃i,i<n/\∀u,(∀k,k<n->ee c l t k<=xr (D k) u)->xr d (mi D c l n t i)<=xr d u:=by
 obtain⟨i,f,j,m⟩:=Mc S h
 refine⟨i,f,λu g=>?_⟩
 have b:=O.bendp f;have o:=g _ (bL f);have p:=g i f;have q:xr (D (pv n i)) (mi D c l n t i)=ee c l t (pv n i):=ED b;have r:xr (D i) (mi D c l n t i)=ee c l t i:=Ei b;generalize mi D c l n t i=P at *;generalize D (pv n i)=A at *;generalize D i=B at *;have e:∀w:V,xr A B*xr d w=xr d B*xr A w+xr A d*xr B w:=λw=>by unfold xr;grind
 have s:=Zp (show 0<=xr d B by rw[dF];grind) (show 0<=xr A u-xr A P by grind);have v:=Zp (Z5 j) (show 0<=xr B u-xr B P by grind);have:=e u
 have:=e P
 have:0<=(xr d u-xr d P)*xr A B:=by grind
 have:=cC b this
 grind
def F7{l r:List V}(T:Bd2 l r)(h:(CG l r).1=false){d:V}(g:d≠(0,0)):∃i,i<(CG l r).2.1/\∀u,(∀q∈r,Er l (sp 1 u q))->xr d (Eg l r (CG l r).2.1 (CG l r).2.2.1 i)<=xr d u:=by
 have f:=eG T;unfold Ea at f;rw[if_neg (by rw[h];decide)] at f;obtain⟨i,m,k⟩:=yi f.ok (yg T) g
 refine⟨i,m,λu n=>k u λj o=>?_⟩
 obtain⟨_,q,p,e⟩:=cv T.pr (hS l ((CG l r).2.2.1 j))
 have:=n q p _ (f.lt j o)
 rw[eD] at this;have s:xS l r ((CG l r).2.2.1 j)=xr (wy (hS l ((CG l r).2.2.1 j))) q:=e;unfold ee;dsimp only;rw[s];grind
def dd_mem{l:List V}{q:V}:q∈Dc l↔q∈l:=by
 unfold Dc;rw[Zt];constructor
 ·rintro⟨p,h,e⟩
  have:=(Ku.mp h).1
  obtain⟨i,d,f⟩:=Qf this
  rw[J3] at f;rw[<-e,<-f];exact Kq _
 ·intro g;obtain⟨i,d,e,mn⟩:∃i,∃d:i<l.length,l[i]=q/\q∉l.take i:=by
   induction l with
   |nil=>cases g
   |cons a l j=>
    by_cases c:a=q
    ·exact⟨0,by simp,by simpa using c,by simp⟩
    ·obtain⟨i,d,e,m⟩:=j (by rcases Zf.mp g with z|z;exact absurd z.symm c;exact z)
     refine⟨i+1,by simp;omega,by simpa using e,?_⟩
     rw[List.take_succ_cons];intro z;rcases Zf.mp z with y|y
     ·exact c y.symm
     ·exact m y
  refine⟨(q,i),Ku.mpr ⟨?_,by simpa using mn⟩,rfl⟩
  rw[List.mem_iff_getElem];refine⟨i,by rw[W6];exact d,?_⟩
  rw[J3,e];simp
namespace Fi
open Mg
section
variable{D:Nat->V}{c l:Nat->Rat}{n:Nat}{t:Rat}
def Ok.onl(O:Ok D c l n t){i:Nat}(d:i<n):xr (D (pv n i)) (mi D c l n t i)=ee c l t (pv n i):=ED (O.bendp d)
def Ok.onr(O:Ok D c l n t){i:Nat}(d:i<n):xr (D i) (mi D c l n t i)=ee c l t i:=Ei (O.bendp d)
def Ok.onn(O:Ok D c l n t){i:Nat}(d:i<n):xr (D i) (mi D c l n t (nx n i))=ee c l t i:=by
 have:=O.onl (bM d)
 rwa [eh d] at this
def Ok.step(O:Ok D c l n t){i:Nat}(d:i<n):∃m,0<=m/\mi D c l n t (nx n i)=pl (mi D c l n t i) (m*(D i).1,m*(D i).2):=by
 refine Fi.len (O.bendp d) (O.bend i d) (O.onl d) (O.onr d) ?_ ?_ (O.lens i d)
 ·exact O.onn d
 ·exact O.onr (bM d)
def Ok.edge(O:Ok D c l n t){i j:Nat}(d:i<n)(e:j<n)(T:xr (D i) (mi D c l n t j)=ee c l t i):mi D c l n t j=mi D c l n t i\/mi D c l n t j=mi D c l n t (nx n i):=by
 have u:=O.bendp d;have v:=O.bend i d;have W:=O.onl d;have X:=O.onr d;have Y:=O.onn d;have Z:=O.onr (bM d);have k1:=O.keeps j _ e (bL d);have k2:=O.keeps j _ e (bM d);have u1:=O.onl e;have u2:=O.onr e;have v1:=O.keeps i _ d (bL e);have v2:=O.keeps i _ d e;have w1:=O.keeps _ _ (bM d) (bL e);have w2:=O.keeps _ _ (bM d) e;have bj:=O.bendp e;generalize mi D c l n t j=U at *;generalize mi D c l n t i=P at *;generalize mi D c l n t (nx n i)=Q at *;generalize D (pv n i)=A at *;generalize D (nx n i)=C at *;generalize D i=B at *;generalize D (pv n j)=E at *;generalize D j=F at *;generalize ee c l t i=eB at *;generalize ee c l t (pv n i)=eA at *;generalize ee c l t (nx n i)=eC at *;generalize ee c l t (pv n j)=eE at *;generalize ee c l t j=eF at *;have f:xr A B≠0:=by grind
 have g:xr B C≠0:=by grind
 have p:xr A B*(U.1-P.1)=(xr A U-xr A P)*B.1:=by
  have:xr B U=xr B P:=by grind
  unfold xr at *;grind
 have q:xr A B*(U.2-P.2)=(xr A U-xr A P)*B.2:=by
  have:xr B U=xr B P:=by grind
  unfold xr at *;grind
 have r:xr B C*(Q.1-U.1)=(xr C U-xr C Q)*B.1:=by
  have:xr B U=xr B Q:=by grind
  unfold xr at *;grind
 have s:xr B C*(Q.2-U.2)=(xr C U-xr C Q)*B.2:=by
  have:xr B U=xr B Q:=by grind
  unfold xr at *;grind
 by_cases w:xr A U=xr A P
 ·left
  rw[w] at p q;have h:xr A B*(U.1-P.1)=0:=by grind
  have m:xr A B*(U.2-P.2)=0:=by grind
  have h:=(Ws.mp h).resolve_left f;have m:=(Ws.mp m).resolve_left f;exact Yt (by grind) (by grind)
 ·by_cases z:xr C U=xr C Q
  ·right
   rw[z] at r s;have h:xr B C*(Q.1-U.1)=0:=by grind
   have m:xr B C*(Q.2-U.2)=0:=by grind
   have h:=(Ws.mp h).resolve_left g;have m:=(Ws.mp m).resolve_left g;exact Yt (by grind) (by grind)
  ·exfalso
   have H:0<xr A U-xr A P:=by grind
   have I:0<xr C U-xr C Q:=by grind
   have o:∀G:V,xr G U<=xr G P->xr G U<=xr G Q->xr G B=0:=λG h1 h2=>by
    have J:xr A B*(xr G P-xr G U) = - (xr A U-xr A P)*xr G B:=by
     have:xr A B*(xr G P-xr G U) = - (G.1*(xr A B*(U.2-P.2))-G.2*(xr A B*(U.1-P.1))):=by unfold xr;grind
     rw[this,p,q];unfold xr;grind
    have K:xr B C*(xr G Q-xr G U)=(xr C U-xr C Q)*xr G B:=by
     have:xr B C*(xr G Q-xr G U)=G.1*(xr B C*(Q.2-U.2))-G.2*(xr B C*(Q.1-U.1)):=by unfold xr;grind
     rw[this,r,s];unfold xr;grind
    have L:=Zp (Z5 u) (show 0<=xr G P-xr G U by grind);have M:=Zp (Z5 v) (show 0<=xr G Q-xr G U by grind);rw[J] at L;rw[K] at M;have l1:xr G B<=0:=by
     by_cases y:xr G B<=0
     ·exact y
     ·have:=Zq H (show 0<xr G B by grind)
      grind
    have l2:0<=xr G B:=by
     by_cases y:0<=xr G B
     ·exact y
     ·have:=Zq I (show 0 < - xr G B by grind)
      grind
    grind
   have N:=o E (by grind) (by grind);have R:=o F (by grind) (by grind);have S:xr E F*xr A B=0:=by
    have:xr E F*xr A B=xr E B*xr A F-xr F B*xr A E:=by unfold xr;grind
    rw[this,N,R];grind
   have:=(Ws.mp S).resolve_right f
   grind
end
end Fi
namespace Fi
open Mg Sf
structure Rg(D P:Nat->V)(E:Nat->Rat)(n:Nat):Prop where
 three:3<=n
 srt:∀i k,i<k->k<n->bf (D i) (D k)
 step:∀i,i<n->∃m,0<=m/\P (i+1)=pl (P i) (m*(D i).1,m*(D i).2)
 close:P n=P 0
 keep:∀i k,i<=n->k<n->E k<=xr (D k) (P i)
 on:∀k,k<n->xr (D k) (P k)=E k
 edge:∀i k,i<=n->k<n->xr (D k) (P i)=E k->P i=P k\/P i=P (k+1)
section
variable{D P:Nat->V}{E:Nat->Rat}{n:Nat}
def Rg.go(R:Rg D P E n){i:Nat}(d:i<n)(f:P i≠P (i+1)):∃m,0<m/\P (i+1)=pl (P i) (m*(D i).1,m*(D i).2):=by
 obtain⟨m,g,e⟩:=R.step i d
 refine⟨m,?_,e⟩
 by_cases z:m=0
 ·refine absurd ?_ f;rw[e,z];unfold pl;exact Yt (by dsimp only;grind) (by dsimp only;grind)
 ·grind
def qp{u v:V}(h:bf u v){m k:Rat}(g:0<m)(i:0<k)(f:m*u.1=k*v.1)(n:m*u.2=k*v.2):False:=by
 have o:xr u v=0:=by
  have:m*xr u v=0:=by unfold xr;grind
  exact(Ws.mp this).resolve_left (by grind)
 rcases h with⟨a,b⟩|⟨_,_,c⟩|⟨_,_,c⟩
 ·have d:∀{x:Rat},0<x->0<m*x:=λh=>Zq g h
  have e:∀{x:Rat},0<x->0<k*x:=λh=>Zq i h
  rcases a with a|⟨a,j⟩<;>rcases b with b|⟨b,l⟩
  ·have:=d a;have:=e b;simp only[ng] at *;grind
  ·have:=d a;simp only[ng] at *;have:v.1=0:=by grind
   rw[this] at f;grind
  ·have:=e b;simp only[ng] at *;rw[a] at f;grind
  ·have:=d j;have:=e l;simp only[ng] at *;grind
 ·grind
 ·grind
def Rg.enter(R:Rg D P E n){i k:Nat}(d:i<n)(f:k<n)(p:i≠k)(e:P (i+1)=P (k+1))(n1:P i≠P (i+1))(n2:P k≠P (k+1)):False:=by
 obtain⟨m,g,r⟩:=R.go d n1
 obtain⟨o,h,t⟩:=R.go f n2
 have B:=R.keep k i vB d;have C:=R.keep i k vB f;have F:=R.on i d;have G:=R.on k f;have q:pl (P i) (m*(D i).1,m*(D i).2)=pl (P k) (o*(D k).1,o*(D k).2):=by rw[<-r,<-t,e]
 have u:(P i).1+m*(D i).1=(P k).1+o*(D k).1:=congrArg Prod.fst q;have v:(P i).2+m*(D i).2=(P k).2+o*(D k).2:=congrArg Prod.snd q;have ed:=R.edge k i vB d;have srt:bf (D i) (D k)\/bf (D k) (D i):=by
  rcases Nat.lt_or_gt_of_ne p with z|z
  ·exact .inl (R.srt _ _ z f)
  ·exact .inr (R.srt _ _ z d)
 have w:xr (D i) (P k)=xr (D i) (P i)-o*xr (D i) (D k):=by unfold xr;grind
 have H:xr (D k) (P i)=xr (D k) (P k)-m*xr (D k) (D i):=by unfold xr;grind
 have A:xr (D i) (D k)=0:=by
  have I:xr (D i) (D k)<=0:=by
   by_cases y:xr (D i) (D k)<=0
   ·exact y
   ·have:=Zq h (show 0<xr (D i) (D k) by grind);grind
  have J:xr (D k) (D i)<=0:=by
   by_cases y:xr (D k) (D i)<=0
   ·exact y
   ·have:=Zq g (show 0<xr (D k) (D i) by grind);grind
  have:=dF (D k) (D i)
  grind
 rw[A] at w;rcases ed (by grind) with z|z
 ·rw[z] at u v;have j:m*(D i).1=o*(D k).1:=by grind
  have l:m*(D i).2=o*(D k).2:=by grind
  rcases srt with s|s
  ·exact qp s g h j l
  ·exact qp s h g j.symm l.symm
 ·exact n2 (z.trans e)
theorem Rg.ret(R:Rg D P E n):∀m j,j+m=n->P j≠P 0->∃k,j<=k/\k<n/\P k≠P 0/\P (k+1)=P 0
 |0,j,e,h=>absurd (by rw[show j=n by omega];exact R.close) h
 |m+1,j,e,h=>by
  by_cases c:P (j+1)=P 0
  ·exact⟨j,Zn _,by omega,h,c⟩
  ·obtain⟨k,a,b,c,d⟩:=R.ret m (j+1) vB c
   exact⟨k,by omega,b,c,d⟩
theorem arr:∀i,P 0≠P i->∃k,k<i/\P k≠P i/\P (k+1)=P i
 |0,h=>absurd rfl h
 |i+1,h=>by
  by_cases c:P i=P (i+1)
  ·obtain⟨k,a,b,d⟩:=arr i (by rw[c];exact h)
   exact⟨k,by omega,by rw[<-c];exact b,by rw[<-c];exact d⟩
  ·exact⟨i,by omega,c,rfl⟩
end
end Fi
open Mg Sf Fi
def qq(l:List V)(x:V):Dc (l++[x])=if x∈l then Dc l else Dc l++[x]:=by
 have e:∀p∈l.zipIdx,decide (p.1∉(l++[x]).take p.2)=decide (p.1∉l.take p.2):=λp d=>by
  have:=List.snd_lt_of_mem_zipIdx d
  rw[List.take_append_of_le_length vB]
 unfold Dc;rw[List.zipIdx_append,List.filter_append,Yl,List.filter_congr e];have f:[x].zipIdx (0+l.length)=[(x,l.length)]:=by rw[W8];rfl
 rw[f];by_cases h:x∈l
 ·rw[if_pos h,G0,if_neg (by
   rw[List.take_left];simpa using h)]
  rw[List.filter_nil,Wp,Kc]
 ·rw[if_neg h,G0,if_pos (by
   rw[List.take_left];simpa using h)]
  rfl
def yj:∀l:List V,(Dc l).Nodup:=λl=>by
 have:∀m (l:List V),l.length=m->(Dc l).Nodup:=λm=>by
  induction m with
  |zero=>intro l h;rw[Jj.mp h];exact Vi
  |succ m f=>
   intro l h;have g:l≠[]:=λz=>by rw[z] at h;cases h
   rw[<-List.dropLast_concat_getLast g,qq];have a:=f l.dropLast (by rw[List.length_dropLast];omega);split
   ·exact a
   ·next z=>
    refine Us.mpr ⟨a,by simp,λb d c e=>?_⟩;rw[Zx] at e;rw[e];intro y;rw[y] at d;exact z (dd_mem.mp d)
 exact this _ l rfl
open Mg Sf Fi
section
variable{D P:Nat->V}{E:Nat->Rat}{n:Nat}
def CU(P:Nat->V)(j:Nat):List V:=(List.range j).map P
def yk(P:Nat->V)(j:Nat):CU P (j+1)=CU P j++[P j]:=by
 unfold CU;rw[List.range_succ,Yl];rfl
def mem_upto{P:Nat->V}{j:Nat}{x:V}:x∈CU P j ↔ ∃i,i<j/\P i=x:=by
 unfold CU;rw[Zt];constructor
 ·rintro⟨i,d,e⟩;exact⟨i,Ym.mp d,e⟩
 ·rintro⟨i,d,e⟩;exact⟨i,Ym.mpr d,e⟩
structure Wk(P:Nat->V)(n j:Nat)(L:List V):Prop where
 head:L[0]? = some (P 0)
 two:∀(a:Nat) (u v:V),L[a]? = some u->L[a+1]? = some v->∃k,k<n/\P k=u/\P (k+1)=v/\P k≠P (k+1)
 last:L.getLast? = some (P (j-1))\/∃k,k+1<j/\L.getLast? = some (P k)/\P k≠P (k+1)/\P (k+1)=P 0/\∀i,k+1<=i->i<j->P i=P 0
theorem E4(R:Rg D P E n):∀j,j+1<=n->Wk P n (j+1) (Dc (CU P (j+1)))
 |0,h=>by
  have e:Dc (CU P 1)=[P 0]:=rfl;rw[e];refine⟨rfl,λa u v o l=>?_,.inl rfl⟩
  rw[Y7,List.getElem?_nil] at l;cases l
 |j+1,h=>by
  have W:=E4 R j vB;rw[yk,qq];by_cases c:P j=P (j+1)
  ·rw[if_pos (mem_upto.mpr ⟨j,by omega,c⟩)];refine⟨W.head,W.two,?_⟩
   rcases W.last with z|⟨k,a,b,d,f,g⟩
   ·left
    rw[z,Ja,Ja,c]
   ·right
    refine⟨k,by omega,b,d,f,λi o l=>?_⟩
    by_cases y:i<j+1
    ·exact g i o y
    ·rw[show i=j+1 by omega,<-c];exact g j vB vB
  ·rcases W.last with z|⟨k,a,b,d,f,g⟩
   ·rw[Ja] at z;by_cases m:P (j+1)∈CU P (j+1)
    ·rw[if_pos m];refine⟨W.head,W.two,.inr ⟨j,by omega,z,c,?_,λi o l=>?_⟩⟩
     all_goals
      have p:P (j+1)=P 0:=by
       obtain⟨i,G,e⟩:=mem_upto.mp m
       apply Y0
       intro s;obtain⟨k,H,t,q⟩:=arr (P:=P) i (by rw[e];exact λz=>s z.symm)
       exact R.enter (i:=k) (k:=j) vB vB vB (q.trans e) (by rw[q];exact t) c
     ·exact p
     ·rw[show i=j+1 by omega];exact p
    ·rw[if_neg m];refine⟨?_,λa u v o l=>?_,.inl ?_⟩
     ·have:=W.head
      rw[Yc (Zi.mp this).1];exact this
     ·by_cases y:a+1<(Dc (CU P (j+1))).length
      ·rw[Yc y] at l;rw[Yc vB] at o;exact W.two a u v o l
      ·have l2:=(Zi.mp l).1;rw[Z8,Js] at l2;have w:a=(Dc (CU P (j+1))).length-1:=by omega
       rw[Yc vB,w,<-Jc,z] at o;rw[Ye vB,show a+1-(Dc (CU P (j+1))).length=0 by omega] at l;exact⟨j,by omega,Zs o,Zs l,c⟩
     ·rw[List.getLast?_append,List.getLast?_singleton,Ja];rfl
   ·exfalso
    have A:P j=P 0:=g j vB vB;obtain⟨B,I,C,F,r⟩:=R.ret (n-(j+1)) (j+1) vB (λz=>c (A.trans z.symm))
    exact R.enter (i:=k) (k:=B) vB C vB (f.trans r.symm) d (by rw[r];exact F)
def qr{u v:V}(h:bf u v):(up u\/up (ng u))/\(up v\/up (ng v)):=by
 rcases h with⟨a,b⟩|⟨a,b,_⟩|⟨a,b,_⟩
 ·exact⟨.inl a,.inr b⟩
 ·exact⟨.inl a,.inl b⟩
 ·exact⟨.inr a,.inr b⟩
def KZ{u v:V}(h:bf u v)(k:up v):up u:=by
 rcases h with⟨a,b⟩|⟨a,b,_⟩|⟨a,b,_⟩
 ·exact a
 ·exact a
 ·exact(Eh k b).elim
def Lc{u v:V}(h:bf u v)(k:up (ng u)):up (ng v):=by
 rcases h with⟨a,b⟩|⟨a,b,_⟩|⟨a,b,_⟩
 ·exact b
 ·exact(Eh a k).elim
 ·exact b
def fG{u:V}{m:Rat}(d:0<m)(h:up u):up (m*u.1,m*u.2):=by
 rcases h with h|⟨h,k⟩
 ·exact .inl (Zq d h)
 ·exact .inr ⟨by dsimp only;rw[h];grind,Zq d k⟩
theorem qs(R:Rg D P E n):∀i,i<=n->(∀k,k<i->up (D k))->P i=P 0\/up (mn (P i) (P 0))
 |0,_,_=>.inl rfl
 |i+1,h,d=>by
  have f:=qs R i vB λk l=>d k vB
  by_cases c:P i=P (i+1)
  ·rw[<-c];exact f
  ·right
   obtain⟨m,j,e⟩:=R.go vB c
   have g:=fG j (d i vB);rcases f with z|z
   ·have:mn (P (i+1)) (P 0)=(m*(D i).1,m*(D i).2):=by rw[e,z];unfold mn pl;exact Yt (by dsimp only;grind) (by dsimp only;grind)
    rw[this];exact g
   ·have:mn (P (i+1)) (P 0)=pl (mn (P i) (P 0)) (m*(D i).1,m*(D i).2):=by rw[e];unfold mn pl;exact Yt (by dsimp only;grind) (by dsimp only;grind)
    rw[this];exact lQ z g
theorem qt(R:Rg D P E n):∀m i,i+m=n->(∀k,i<=k->k<n->up (ng (D k)))->P i=P 0\/up (mn (P i) (P 0))
 |0,i,h,_=>by rw[show i=n by omega];exact .inl R.close
 |m+1,i,h,d=>by
  have f:=qt R m (i+1) vB λk l=>d k vB
  by_cases c:P i=P (i+1)
  ·rw[c];exact f
  ·right
   obtain⟨m,j,e⟩:=R.go vB c
   have g:=fG j (d i vB vB);rcases f with z|z
   ·have:mn (P i) (P 0)=(m*(ng (D i)).1,m*(ng (D i)).2):=by rw[<-z,e];unfold mn pl ng;exact Yt (by dsimp only;grind) (by dsimp only;grind)
    rw[this];exact g
   ·have:mn (P i) (P 0)=pl (mn (P (i+1)) (P 0)) (m*(ng (D i)).1,m*(ng (D i)).2):=by rw[e];unfold mn pl ng;exact Yt (by dsimp only;grind) (by dsimp only;grind)
    rw[this];exact lQ z g
def ym(R:Rg D P E n){i:Nat}(f:i<=n)(d:P i≠P 0):CZ (P 0) (P i):=by
 rw[ltR_up];have e:=R.three;cases i with
 |zero=>exact absurd rfl d
 |succ i=>
  have g:up (D i)\/up (ng (D i)):=by
   by_cases z:i=0
   ·rw[z];exact(qr (R.srt 0 1 vB vB)).1
   ·exact(qr (R.srt 0 i vB vB)).2
  rcases g with u|u
  ·refine(qs R (i+1) f λk j=>?_).resolve_left d;by_cases z:k=i
   ·rw[z];exact u
   ·exact KZ (R.srt k i vB vB) u
  ·refine(qt R (n-(i+1)) (i+1) vB λk l h=>?_).resolve_left d;exact Lc (R.srt i k vB h) u
def Told(L:List V):Prop:=L=[]\/(∃p,L=[p])\/(∃p q,L=[p,q]/\CZ p q)\/IsShp L
def yn(R:Rg D P E n){k i:Nat}(d:k<n)(g:i<=n)(h:P k≠P (k+1))(n1:P i≠P k)(n2:P i≠P (k+1)):0<oR (P k) (P (k+1)) (P i):=by
 obtain⟨m,j,e⟩:=R.go d h
 have a:=R.keep i k g d;have b:=R.on k d;have c:xr (D k) (P i)≠E k:=λz=>by rcases R.edge i k g d z with y|y;exact n1 y;exact n2 y
 have f:oR (P k) (P (k+1)) (P i)=m*(xr (D k) (P i)-xr (D k) (P k)):=by rw[e];unfold oR xr pl;grind
 rw[f];exact Zq j (by grind)
def yo(R:Rg D P E n):Told (Dc (CU P n)):=by
 have t:=R.three;have W:=E4 R (n-1) vB;rw[show n-1+1=n by omega] at W;have m:=yj (CU P n);have o:∀x,x∈Dc (CU P n) ↔ ∃i,i<n/\P i=x:=λx=>dd_mem.trans mem_upto
 generalize Dc (CU P n)=L at *;have f:∀x,x∈L->x≠P 0->CZ (P 0) x:=λx w u=>by
  obtain⟨i,A,e⟩:=(o x).mp w
  rw[<-e];exact ym R vB (by rw[e];exact u)
 have inj:∀(i j:Nat) (x:V),L[i]? = some x->L[j]? = some x->i=j:=λi j x d r=>by
  obtain⟨a,g⟩:=Zi.mp d
  obtain⟨b,l⟩:=Zi.mp r
  exact(Kr (h₀:=a) (h₁:=b) m).mp (g.trans l.symm)
 by_cases s:3<=L.length
 ·-- a shape
  refine .inr (.inr (.inr ⟨s,λk B q C d=>?_,λk a b c d r F G H=>?_⟩))
  ·have I:B=P 0:=Zs (C.symm.trans W.head);rw[I];refine f q (Yh d) λz=>?_;rw[z] at d;have:=inj _ _ _ d W.head
   omega
  ·have key:∃e,e<n/\P e=a/\P (e+1)=b/\P e≠P (e+1):=by
    have O:=(Zi.mp r).1;cases k with
    |succ k=>
     rw[show k+1+L.length-1=k+L.length by omega,Yo,Zh vB] at d;exact W.two k a b d r
    |zero=>
     rw[W8,Zh vB,<-Jc] at d;have l:b=P 0:=Zs (r.symm.trans W.head);rcases W.last with z|⟨e,Q,J,K,M,_⟩
     ·have g:a=P (n-1):=Zs (d.symm.trans z);refine⟨n-1,by omega,g.symm,by rw[show n-1+1=n by omega,R.close,l],?_⟩
      rw[show n-1+1=n by omega,R.close];intro y;rw[Jc,g,y] at d;have:=inj _ _ _ d W.head
      omega
     ·exact⟨e,by omega,Zs (J.symm.trans d),by rw[M,l],K⟩
   obtain⟨e,N,g,l,u⟩:=key
   obtain⟨i,A,v⟩:=(o c).mp F
   rw[<-g,<-l,<-v];exact yn R N vB u (by rw[v,g];exact G) (by rw[v,l];exact H)
 ·match L,W.head,m,f with
  |[],h,_,_=>cases h
  |[p],_,_,_=>exact .inr (.inl ⟨p,rfl⟩)
  |[p,q],h,m,f=>
   have e:p=P 0:=Zs h;refine .inr (.inr (.inl ⟨p,q,rfl,?_⟩));rw[e];refine f q vC λz=>?_;rw[e,z] at m;simp at m
  |_::_::_::_,_,_,_=>simp at s
end
open Mg Sf Fi
structure Tel(R:V->Prop)(L:List V):Prop where
 mem:∀p∈L,R p/\∃A B,xr A B≠0/\∀u,R u->xr A p<=xr A u/\xr B p<=xr B u
 low:L≠[]->∀d,d≠(0,0)->∃p∈L,∀u,R u->xr d p<=xr d u
 told:Told L
 ne:∀u,R u->L≠[]
def DZ(l r:List V)(u:V):Prop:=∀q∈r,Er l (sp 1 u q)
def IM{D:Nat->V}{c l:Nat->Rat}{n:Nat}{t:Rat}(O:Ok D c l n t):Rg D (λi=>mi D c l n t (i%n)) (ee c l t) n:=by
 have f:=O.three;have j:∀{i},i<n->i%n=i:=λh=>Zh h
 have o:∀{i},i<n->(i+1)%n=nx n i:=λh=>(jD h).symm
 have lt:∀i,i%n<n:=λi=>Wi _ vB
 refine⟨f,O.srt,λi g=>?_,?_,λi k g d=>O.keeps _ _ (lt i) d,λk d=>?_,λi k g d e=>?_⟩
 ·show ∃m,0<=m/\mi D c l n t ((i+1)%n)=pl (mi D c l n t (i%n)) _;rw[o g,j g];exact O.step g
 ·show mi D c l n t (n%n)=mi D c l n t (0%n);rw[K8,Q8]
 ·show xr (D k) (mi D c l n t (k%n))=_;rw[j d];exact O.onr d
 ·show mi D c l n t (i%n)=mi D c l n t (k%n)\/mi D c l n t (i%n)=mi D c l n t ((k+1)%n);rw[o d,j d];exact O.edge d (lt i) e
def FK{l r:List V}(T:Bd2 l r):Tel (DZ l r) (Dr l r):=by
 cases h:(CG l r).1 with
 |true=>
  have e:Dr l r=[]:=by unfold Dr;rw[if_pos h]
  rw[e];exact⟨λp m=>(by cases m),λz=>absurd rfl z,.inl rfl,λu n=>absurd n (ye T h u)⟩
 |false=>
  have g:=eG T;unfold Ea at g;rw[if_neg (by rw[h];decide)] at g;have R:=IM g.ok;have o:=yo R;have e:Dr l r=Dc ((List.range (CG l r).2.1).map (Eg l r (CG l r).2.1 (CG l r).2.2.1)):=by unfold Dr;rw[if_neg (by rw[h];decide)]
  have v:CU (λi=>mi (λi=>wy (hS l ((CG l r).2.2.1 i))) (λi=>((hS l ((CG l r).2.2.1 i)).2.2:Rat)) (λi=>xS l r ((CG l r).2.2.1 i)) (CG l r).2.1 1 (i%(CG l r).2.1)) (CG l r).2.1=(List.range (CG l r).2.1).map (Eg l r (CG l r).2.1 (CG l r).2.2.1):=by
   unfold CU;refine Y5 λi f=>?_;rw[Zh (Ym.mp f)];rfl
  rw[v,<-e] at o;have s:∀p,p∈Dr l r ↔ ∃i,i<(CG l r).2.1/\Eg l r (CG l r).2.1 (CG l r).2.2.1 i=p:=λp=>by
   rw[e,dd_mem,Zt];constructor
   ·rintro⟨i,f,e⟩;exact⟨i,Ym.mp f,e⟩
   ·rintro⟨i,f,e⟩;exact⟨i,Ym.mpr f,e⟩
  refine⟨λp m=>?_,λ_ d w=>?_,o,λu _=>IW T h⟩
  ·obtain⟨i,f,A⟩:=(s p).mp m
   rw[<-A];refine⟨yf T h f,wy (hS l ((CG l r).2.2.1 (pv (CG l r).2.1 i))),wy (hS l ((CG l r).2.2.1 i)),?_,λu n=>?_⟩
   ·have:0<xr (wy (hS l ((CG l r).2.2.1 (pv (CG l r).2.1 i)))) (wy (hS l ((CG l r).2.2.1 i))):=g.ok.bendp f
    grind
   ·have t:∀j,j<(CG l r).2.1->((hS l ((CG l r).2.2.1 j)).2.2:Rat)-1*xS l r ((CG l r).2.2.1 j)<=xr (wy (hS l ((CG l r).2.2.1 j))) u:=λj B=>by
     obtain⟨_,q,C,e⟩:=cv T.pr (hS l ((CG l r).2.2.1 j))
     have:=n q C _ (g.lt j B)
     rw[eD] at this;have D:xS l r ((CG l r).2.2.1 j)=xr (wy (hS l ((CG l r).2.2.1 j))) q:=e;rw[D];grind
    have o1:xr (wy (hS l ((CG l r).2.2.1 (pv (CG l r).2.1 i)))) (Eg l r (CG l r).2.1 (CG l r).2.2.1 i)=((hS l ((CG l r).2.2.1 (pv (CG l r).2.1 i))).2.2:Rat)-1*xS l r ((CG l r).2.2.1 (pv (CG l r).2.1 i)):=g.ok.onl f;have o2:xr (wy (hS l ((CG l r).2.2.1 i))) (Eg l r (CG l r).2.1 (CG l r).2.2.1 i)=((hS l ((CG l r).2.2.1 i)).2.2:Rat)-1*xS l r ((CG l r).2.2.1 i):=g.ok.onr f;rw[o1,o2];exact⟨t _ (bL f),t _ f⟩
  ·obtain⟨i,f,k⟩:=F7 T h w
   exact⟨_,(s _).mpr ⟨i,f,rfl⟩,k⟩
def Hl{l:List V}(f:IsShp l){y:V}:Er l y ↔ ∀d,∃q∈l,xr d q<=xr d y:=⟨λh d=>xQ f h d,λh j g=>by
 obtain⟨q,i,e⟩:=h (wy (hS l j))
 exact Kn (qe f i j g) e⟩
open Mg Sf Fi
open Sf
open Mg Fi PySem
section
variable{Γ:Nat->∅}
end
open Sf
open Mg Fi PySem
section
variable{Γ:Nat->∅}
def JJ{l r:List V}(h:l=r):CI .ne (.lst (l.map CC)) (.lst (r.map CC))=some false:=by
 have:=pO l r
 rw[decide_eq_true h] at this;have d:eqO (.lst (l.map CC)) (.lst (r.map CC))=some true:=this;show(eqO _ _).map not=_;rw[d];rfl
end
open Sf
open Mg Fi PySem
section
variable{Γ:Nat->∅}
end
open Sf Mg
section
variable{Γ:Nat->∅}
def yp{e g i SQ A C:List D}{l m h j n1 n2 M:Int}{n:List Int}{o f:Option B}(p:L2.atI e 1=some (.int l))(q:L2.atI e 2=some (.int m))(r:L2.atI e 3=some (.int h))(s:L2.atI e 4=some (.int j))
 (t:L2.atI [D.int (1+m%2),D.int 7] (h/16%8/7)=some (.int n1))(u:L2.atI [D.int (h/4%3),D.int 6] (h/16%8/7)=some (.int n2))(v:(-4611686018427387904<=n1/\n1<4611686018427387904)=True)(w:(-4611686018427387904<=n2/\n2<4611686018427387904)=True)
 (z:forN (Bo (.name 2)) (exs Γ el) (Bv 0 n1.toNat) [~~~.lst e,some (.ow [.int (l%3-3)]),none,none,none]=some (.nx [~~~.lst e,some (.ow g),o,none,none]))
 (E:forN (Bo (.name 2)) (exs Γ et) (Bv 0 n2.toNat) [~~~.lst e,some (.ow g),o,some (.ow [.int (h%4-3)]),none]=some (.nx [~~~.lst e,some (.ow g),f,some (.ow i),none]))
 (F:ev Γ jI [some (.lst e),some (.lst g),f.map B.d,some (.lst i),none]=some (.new SQ))(G:cj SQ=some n)(H:maxI n=some M)(I:Bk 2 M=true)
 (J:ev Γ jJ [some (.lst e),some (.lst g),f.map B.d,some (.lst i),some (.int (2*M+1+j/32%9))]=some (.new A))(K:ev Γ jK [some (.lst e),some (.lst g),f.map B.d,some (.lst i),some (.int (2*M+1+j/32%9))]=some (.new C))
 (L:Df .add (.lst A) (.lst C)=some (.new (A++C))):run Γ jn 5 [.lst e]=some (.new (A++C)):=by
 show run Γ #v[.asg 1 (.lst #v[.bin .sub (.bin .mod (.ix (.var 0) (.int 1)) (.int 3)) (.int 3)]),.frr (.name 2) (.range1 (.ix (.lst #v[.bin .add (.int 1) (.bin .mod (.ix (.var 0) (.int 2)) (.int 2)),.int 7]) (.bin .fdiv (.bin .mod (.bin .fdiv (.ix (.var 0) (.int 3)) (.int 16)) (.int 8)) (.int 7)))) el,.asg 3 (.lst #v[.bin .sub (.bin .mod (.ix (.var 0) (.int 3)) (.int 4)) (.int 3)]),.frr (.name 2) (.range1 (.ix (.lst #v[.bin .mod (.bin .fdiv (.ix (.var 0) (.int 3)) (.int 4)) (.int 3),.int 6]) (.bin .fdiv (.bin .mod (.bin .fdiv (.ix (.var 0) (.int 3)) (.int 16)) (.int 8)) (.int 7)))) et,.asg 4 (.bin .add (.bin .add (.bin .mul (.int 2) (.bi .max #v[jI])) (.int 1)) (.bin .mod (.bin .fdiv (.ix (.var 0) (.int 4)) (.int 32)) (.int 9))),.ret (.bin .add jJ jK)] 5 _=_;generalize el=N at *;generalize et=O at *;generalize jI=P at *;generalize jJ=Q at *;generalize jK=R at *;walk_at "evh"
def cR:∅:=run (tab []) jn 5
def ok_law_bows_k31:∀d w,d.length=1->cR d=some w->run Γ jn 5 d=some w:=λd w _ h=>bq [] (λp e=>by cases e) vA d w h
def yq{f:List Int}(Q:8<=f.length):∃R,(RgOk R/\R.length<=15)/\cR [.lst (f.map D.int)]=some (.new (R.map pP)):=by
 have d:∀(j:Nat) (h:j<8),L2.atI (f.map D.int) (j:Int)=some (.int (f[j]'vB)):=λj h=>ek vB
 obtain⟨C,E⟩:∃h,L2.atI (f.map D.int) 1=some (.int h):=⟨_,d 1 vA⟩
 obtain⟨u,v⟩:∃h,L2.atI (f.map D.int) 2=some (.int h):=⟨_,d 2 vA⟩
 obtain⟨g,F⟩:∃h,L2.atI (f.map D.int) 3=some (.int h):=⟨_,d 3 vA⟩
 obtain⟨H,w⟩:∃h,L2.atI (f.map D.int) 4=some (.int h):=⟨_,d 4 vA⟩
 obtain⟨i,l,I,A,J,S,U⟩:∃i l:Nat,L2.atI [D.int (1+u%2),D.int 7] (g/16%8/7)=some (.int (i:Int))/\L2.atI [D.int (g/4%3),D.int 6] (g/16%8/7)=some (.int (l:Int))/\1<=i/\i<=7/\l<=6:=by
  rcases(show g/16%8/7=0\/g/16%8/7=1 by omega) with z|z
  ·rw[z];exact⟨(1+u%2).toNat,(g/4%3).toNat,by rw[Gg vB];rfl,by rw[Gg vB];rfl,by omega,by omega,by omega⟩
  ·rw[z];exact⟨7,6,rfl,rfl,by decide,by decide,by decide⟩
 obtain⟨n,K,o,L⟩:=wN (Γ:=tab []) v (x:=C%3-3) ⟨by omega,by omega⟩ i vB
 obtain⟨B,N,r,O⟩:=wO (Γ:=tab []) (c1:=some (.ow (n.map D.int))) (c2:=K) w (x:=g%4-3) ⟨by omega,by omega⟩ l vB
 have V:=o.len;have W:=r.len;have s:∀x∈n,-31<=x/\x<=31:=λx m=>by have:=o.bd x m;omega
 have by_:∀x∈B,-31<=x/\x<=31:=λx m=>by have:=r.bd x m;omega
 obtain⟨M,t⟩:=pM ((n++B).map λx=>x*x) (λz=>by
  have:=congrArg List.length z
  rw[Zc,Z8,Kv] at this;omega)
 have G:=wV o r J vB vB t (T:=2*M+1+H/32%9) vB vB;have X:0<=M/\M<=1000:=by
  obtain⟨p,_⟩:=iH t
  obtain⟨z,P,e⟩:=Zt.mp p
  have e:z*z=M:=e;have Y : -31<=z/\z<=31:=by
   rcases Yw.mp P with q|q
   ·exact s z q
   ·exact by_ z q
  have:=Yy (show 0<=31-z by omega) (show 0<=31+z by omega)
  have A:(31-z)*(31+z)=961-z*z:=by grind
  have Z:0<=z*z:=by rw[<-Qd z];exact Yy (Yx _) (Yx _)
  omega
 refine⟨_,⟨G,by rw[Z8,Zc,Zc,W3];omega⟩,?_⟩
 unfold cR;rw[Yl];exact yp (n1:=(i:Int)) (n2:=(l:Int)) E v F w I A (eq_true ⟨by omega,by omega⟩) (eq_true ⟨by omega,by omega⟩) (by rw[Zz];exact L) (by rw[Zz];exact O)
  (wQ (λx m=>(Yw.mp m).elim (s x) (by_ x)) vB) (lZ _) t (Bt vA vA vB vB) (wR s vB) (wU by_ vB) (jL (by rw[Zc,Zc,Zc,Zc,W3];omega))
def eI:∅:=run (tab [(105,cR)]) jl 7
def ok_law_ring6(d:Γ 105=cR):∀e w,e.length=1->eI e=some w->run Γ jl 7 e=some w:=λe w _ h=>bq [(105,cR)] (λp f=>by rw[Zx.mp f];exact d) vA e w h
def yr{m:List Int}(s:8<=m.length):∃R,(RgOk R/\R.length<=15)/\eI [.lst (m.map D.int)]=some (.new (R.map pP)):=by
 have l:∀(j:Nat) (h:j<8),L2.atI (m.map D.int) (j:Int)=some (.int (m[j]'vB)):=λj h=>ek vB
 obtain⟨q,r⟩:∃h,L2.atI (m.map D.int) 0=some (.int h):=⟨_,l 0 vA⟩
 obtain⟨t,v⟩:∃h,L2.atI (m.map D.int) 1=some (.int h):=⟨_,l 1 vA⟩
 obtain⟨A,B⟩:∃h,L2.atI (m.map D.int) 2=some (.int h):=⟨_,l 2 vA⟩
 obtain⟨C,E⟩:∃h,L2.atI (m.map D.int) 3=some (.int h):=⟨_,l 3 vA⟩
 obtain⟨F,G⟩:∃h,L2.atI (m.map D.int) 4=some (.int h):=⟨_,l 4 vA⟩
 obtain⟨i,H,P⟩:∃u,1+t%5=u/\1<=u/\u<=5:=⟨_,rfl,by omega,by omega⟩
 obtain⟨g,I,Q⟩:∃u,A%7-3=u /\ -3<=u/\u<=3:=⟨_,rfl,by omega,by omega⟩
 obtain⟨d,J,S⟩:∃u,0-C%4=u /\ -3<=u/\u<=0:=⟨_,rfl,by omega,by omega⟩
 obtain⟨v1,K,T⟩:∃u,1+F%5=u/\1<=u/\u<=5:=⟨_,rfl,by omega,by omega⟩
 have L:=wW (Γ:=tab [(105,cR)]) v B E G H I J K (Bt vB vB vB vB) (Bt vB vB vB vB);unfold eI;rw[L];have small : -9<=g*d/\g*d<=9:=by
  have U:=Yy (show 0<=3-g by omega) (show 0 <= -d by omega);have V:=Yy (show 0<=3+g by omega) (show 0 <= -d by omega);have X:(3-g) * -d=g*d-3*d:=by grind
  have Y:(3+g) * -d = -(g*d)-3*d:=by grind
  omega
 obtain⟨n,M,Z,cr⟩:∃w,(if i*v1<=g*d then v1+10 else v1)=w/\(1<=w/\w<=15)/\0<Lb.crP (i,g) (d,w):=by
  by_cases c:i*v1<=g*d
  ·refine⟨_,if_pos c,⟨by omega,by omega⟩,?_⟩
   show 0<i*(v1+10)-g*d;have p:=Yy (show 0<=i-1 by omega) (show 0<=v1+10 by omega);have f:(i-1)*(v1+10)=i*(v1+10)-(v1+10):=by grind
   omega
  ·refine⟨_,if_neg c,⟨by omega,by omega⟩,?_⟩
   show 0<i*v1-g*d;omega
 rw[M];have N:∀{R:List Lb.Pt}{w:W},w=.new (R.map pP)->some w=some (W.new (R.map pP)):=λe=>by rw[e]
 rcases(show q%5=2\/q%5=3\/q%5=4\/(q%5=0\/q%5=1) by omega) with c|c|c|c
 ·rw[FW r c];refine⟨[(0,0),(i,g),(i+d,g+n),(d,n)],⟨⟨Lb.tri_box cr,vC,vC,λp o=>?_⟩,vC⟩,rfl⟩
  simp only[Zf,Zk,or_false] at o;rcases o with rfl|rfl|rfl|rfl<;>dsimp only<;>omega
 ·rw[FV r c];refine⟨[(0,0),(i,g),(d,n)],⟨⟨Lb.tri_3 cr,vC,vC,λp o=>?_⟩,vC⟩,rfl⟩
  simp only[Zf,Zk,or_false] at o;rcases o with rfl|rfl|rfl<;>dsimp only<;>omega
 ·rw[FU r c (Bt vA vA vB vB) (Bt vA vA vB vB)];refine⟨[(0,0),(i,g),(i+(i+d),g+(g+n)),(2*(i+d),2*(g+n)),(d+(i+d),n+(g+n)),(d,n)],⟨⟨Lb.tri_6 cr,vC,vC,λp o=>?_⟩,vC⟩,rfl⟩
  simp only[Zf,Zk,or_false] at o;rcases o with rfl|rfl|rfl|rfl|rfl|rfl<;>dsimp only<;>omega
 ·obtain⟨R,O,e⟩:=yq s
  refine⟨R,O,wX r (Γ:=tab [(105,cR)]) (z:=q%5) (φ:=cR) rfl rfl (decide_eq_false vB) (decide_eq_false vB) (decide_eq_false vB) e⟩
end
abbrev fH:List (Nat×(∅)):=[(46,eI),(103,bJ)]
def gZ:∅:=run (tab fH) jm 10
section
variable{Γ:Nat->∅}
def ok_law_shape6(g:Γ 46=eI)(e:Γ 103=bJ):∀d w,d.length=1->gZ d=some w->run Γ jm 10 d=some w:=λd w _ h=>bq fH (by
 intro p f;simp only[fH,Zf,Zk,or_false] at f;rcases f with rfl|rfl<;>assumption) vA d w h
end
def qu{hs:List Int}(U:8<=hs.length):∃l,(Sh5 l/\l.length<=15)/\gZ [.lst (hs.map D.int)]=some (.new (l.map CC)):=by
 have i:∀(j:Nat) (h:j<8),L2.atI (hs.map D.int) (j:Int)=some (.int (hs[j]'vB)):=λj h=>ek vB
 obtain⟨t,V⟩:∃h,L2.atI (hs.map D.int) 0=some (.int h):=⟨_,i 0 vA⟩
 obtain⟨L,W⟩:∃h,L2.atI (hs.map D.int) 5=some (.int h):=⟨_,i 5 vA⟩
 obtain⟨n,X⟩:∃h,L2.atI (hs.map D.int) 6=some (.int h):=⟨_,i 6 vA⟩
 obtain⟨u,Y⟩:∃h,L2.atI (hs.map D.int) 7=some (.int h):=⟨_,i 7 vA⟩
 obtain⟨R,⟨r,F⟩,Z⟩:=yr U
 have M:=r.tri.nodup r.three;have r3:=r.three;have rf:=r.few;obtain⟨k,A⟩:=Lb.lo_ex M vB
 obtain⟨b,i1,b1,b2⟩:∃b:Int,L2.atI [D.int 1,D.int (1+L%1000000000)] (t/5%2)=some (.int b)/\1<=b/\b<=1000000000:=by
  rw[l6 vB];by_cases z:t/5%2=0
  ·exact⟨1,by rw[if_pos z],by decide,by decide⟩
  ·exact⟨_,by rw[if_neg z],by omega,by omega⟩
 obtain⟨o,i2,o1,o2⟩:∃b:Int,L2.atI [D.int 10,D.int 1000000000000000000] (t/10%2)=some (.int b)/\1<=b/\b<=1000000000000000000:=by
  rw[l6 vB];by_cases z:t/10%2=0
  ·exact⟨10,by rw[if_pos z],by decide,by decide⟩
  ·exact⟨_,by rw[if_neg z],by decide,by decide⟩
 obtain⟨s,i3,s1,s2⟩:∃b:Int,L2.atI [D.int 1,D.int (1+L%6)] (t/20%2)=some (.int b)/\1<=b/\b<=6:=by
  rw[l6 vB];by_cases z:t/20%2=0
  ·exact⟨1,by rw[if_pos z],by decide,by decide⟩
  ·exact⟨_,by rw[if_neg z],by omega,by omega⟩
 have f6:0<=n%o/\n%o<o:=⟨Wt _ vB,Qq _ vB⟩;have f7:0<=u%o/\u%o<o:=⟨Wt _ vB,Qq _ vB⟩;have g:s.natAbs<2^9000:=Zg (show s.natAbs<2^3 by omega) (Bm vA);have sz:(1000:Nat)<=PySem.sizeLine:=by decide
 refine⟨(Dv R k).map (Lb.spot2 b (n%o) (u%o) s),?_,?_⟩
 ·have key:∀q∈(Dv R k).map (Lb.spot2 b (n%o) (u%o) s),∃x y:Int,q.1=Rat.divInt x s/\q.2=Rat.divInt y s/\x.natAbs<2^62/\y.natAbs<2^62:=λq v=>by
   obtain⟨p,B,e⟩:=Zt.mp v
   have m:=r.bd p (rot_mem.mp B);have N:∀x:Int,-4000<=x->x<=4000 -> -4000000000000<=x*b/\x*b<=4000000000000:=λx C E=>by
    have g1:=Qh E (show 0<=b by omega);have g2:=Qh C (show 0<=b by omega);omega
   have k1:=N p.1 m.1.1 m.1.2;have k2:=N p.2 m.2.1 m.2.2;have w:(2:Nat)^62=4611686018427387904:=by decide
   rw[<-e];exact⟨p.1*b+n%o,p.2*b+u%o,rfl,rfl,by rw[w];omega,by rw[w];omega⟩
  have G:s.natAbs<2^3:=by omega
  refine⟨⟨Lb.shp2 r.tri r3 A b1 s1,by rw[Zc,ef];exact rf,⟨s,by omega,G,λq v=>⟨key q v⟩⟩,λq v=>?_⟩,by rw[Zc,ef];exact F⟩
  obtain⟨x,y,e1,e2,C,E⟩:=key q v
  exact⟨by rw[e1];exact di vB C G,by rw[e2];exact di vB E G⟩
 ·have O:k<=(R.map pP).length:=by rw[Zc];have:=A.lt;omega
  have P:(R.map pP).drop k++(R.map pP).take k=(Dv R k).map pP:=by rw[pf];rfl
  obtain⟨a1,f,H,J,K,rfl⟩:=jH (bt:=Bo (.tup [7,8])) (fb:=exs (tab fH) fz) (I:=λj Q=>∃H J K,Q=[~~~.lst (hs.map D.int),some (.ow (R.map pP)),~~~.int b,~~~.int o,~~~.int s,~~~.int (k:Int),some (.ow (((Dv R k).take j).map λp=>CC (Lb.spot2 b (n%o) (u%o) s p))),H,J,K]) ((Dv R k).map pP) 0 [~~~.lst (hs.map D.int),some (.ow (R.map pP)),~~~.int b,~~~.int o,~~~.int s,~~~.int (k:Int),some (.ow []),none,none,none] ⟨none,none,none,rfl⟩ λj d Q S hi=>by
   obtain⟨H,J,K,rfl⟩:=hi
   rw[Zm] at S;obtain⟨p,B,e⟩:=Zb.mp S
   subst e;have m:=r.bd p (rot_mem.mp (Yh B));have T:∀x:Int,-4000<=x->x<=4000->Bk x b=true:=λx C E=>Bt vB vB vB vB
   refine⟨_,_,rfl,wY (Γ:=tab fH) (φ:=bJ) (x:=p.1) (y:=p.2) rfl X Y vB (T p.1 m.1.1 m.1.2) (T p.2 m.2.1 m.2.2) (fw vB g) (fw vB g) (bS _) (bS _) (eq_true ?_),~~~.int p.1,~~~.int p.2,~~~fr (Rat.divInt (p.1*b+n%o) s),?_⟩
   ·rw[Zc,Wb];have:(Dv R k).length=R.length:=ef
    omega
   ·rw[W8,Jz,B,Yl];rfl
  rw[W8,Zc,Jl] at f;unfold gZ;rw[Yg];refine wZ (Γ:=tab fH) (φ:=bJ) (ψ:=eI) (c1:=none) rfl rfl V W Z (l5 R) i1 i2 i3 (w4 A) (JS M A.lt) (pF O) (lX O) (jL (by rw[Yr,Wb,Zc];omega)) (by rw[P];exact l5 _) (by rw[P];exact f)
open Sf
open Mg Fi PySem
section
variable{Γ:Nat->∅}
theorem mu{o:D->CB->Option CB}{fb:CB->Option Out}{I:CB->Prop}{w:W}:∀(l:List D) (P:D->Prop) (e:CB),I e->(∀d∈l,∀e,I e->∃f,o d e=some f/\((P d/\∃g,fb f=some (.nx g)/\I g)\/(¬P d/\fb f=some (.rt w)))) ->
  ((∀d∈l,P d)/\∃i,forN o fb l e=some (.nx i)/\I i)\/((∃d∈l,¬P d)/\forN o fb l e=some (.rt w))
 |[],P,e,h,_=>.inl ⟨λd hd=>(by cases hd),e,rfl,h⟩
 |d::l,P,e,h,st=>by
  obtain⟨f,p,k⟩:=st d (.head _) e h
  rcases k with⟨q,g,m,s⟩|⟨q,m⟩
  ·rcases mu l P g s λj hd=>st j (.tail _ hd) with⟨a,i,r,t⟩|⟨⟨j,hd,n⟩,r⟩
   ·refine .inl ⟨λj hd=>?_,i,?_,t⟩
    ·rcases Zf.mp hd with rfl|hd
     ·exact q
     ·exact a j hd
    ·unfold forN;rw[p];simp only[Zv];rw[m];simp only[Zv];exact r
   ·refine .inr ⟨⟨j,.tail _ hd,n⟩,?_⟩;unfold forN;rw[p];simp only[Zv];rw[m];simp only[Zv];exact r
  ·refine .inr ⟨⟨d,.head _,q⟩,?_⟩;unfold forN;rw[p];simp only[Zv];rw[m]
theorem yt:∀d w,cD d=some w->B8 d=some w
 |[],w,h=>by cases h
 |[_],w,h=>by cases h
 |[a,b],w,h=>pJ (Γ:=tab [(103,bJ)]) gn [a,b] w rfl h
 |_::_::_::_,w,h=>by cases h
def EV(d:Γ 108=bx)(h:Γ 74=B8):∀f g w,tab fF f g=some w->Γ f g=some w:=λf g w q=>by
 by_cases e:f=108
 ·subst e;rw[d];exact q
 ·by_cases i:f=74
  ·subst i;rw[h];exact yt g w q
  ·unfold fF at q;rw[i7 e,i7 i] at q;cases q
def ok_law_turn6(d:Γ 108=bx)(f:Γ 74=B8):∀e w,e.length=3->bC e=some w->run Γ fk 9 e=some w:=λe w _ h=>by
 unfold bC run at h;unfold run;exact Bb (λo=>CP (EV d f) fk _ o vA) (λ_ _ z=>z) h
def ok_law_moved6(d:Γ 108=bx)(f:Γ 74=B8):∀e w,e.length=3->cw e=some w->run Γ oM 7 e=some w:=λe w _ h=>by
 unfold cw run at h;unfold run;exact Bb (λo=>CP (EV d f) lx _ o vA) (λ_ _ z=>z) h
def ok_law_held6(d:Γ 45=bC):∀e w,e.length=2->bZ e=some w->run Γ fo 3 e=some w:=xI d
def mv{a b c:V}{m n:Nat}(d:Sz m a.1/\Sz m a.2)(f:Sz m b.1/\Sz m b.2)(g:Sz n c.1/\Sz n c.2)(w:m<=600)(z:n<=4300:=by decide)(A:n+m+1<=4400:=by decide):∃s:Int,bC [CC a,CC b,CC c]=some (.val (.int s))/\(s<0↔oR a b c<0)/\(s<=0↔oR a b c<=0)/\(s=0↔oR a b c=0):=by
 have i:=f.1.sub d.1;have j:=f.2.sub d.2;have l:=g.1.sub d.1;have o:=g.2.sub d.2;have p:=(i.mul o).mono (show m+m+1+(n+m+1)<=8000 by omega);have q:=(j.mul l).mono (show m+m+1+(n+m+1)<=8000 by omega);refine⟨_,xH (Γ:=tab fF) rfl rfl (n1:=a.1.num) (d1:=a.1.den) (n2:=a.2.num) (d2:=a.2.den) (B1:=fr b.1) (B2:=fr b.2) (C1:=fr c.1) (C2:=fr c.2) (X1:=fr (b.1-a.1)) (X2:=fr (b.2-a.2)) (X3:=fr (c.1-a.1)) (X4:=fr (c.2-a.2)) rfl rfl rfl rfl
  (ew f.1 d.1 vB vB) (ew f.2 d.2 vB vB) (ew g.1 d.1 vB vB) (ew g.2 d.2 vB vB) (gX i o vB vB) (gX j l vB vB)
  (Bf p.t q.b vA vA) (Bf q.t p.b vA vA),?_⟩
 have e:oR a b c=(b.1-a.1)*(c.2-a.2)-(b.2-a.2)*(c.1-a.1):=rfl;rw[e];generalize (b.1-a.1)*(c.2-a.2)=L at *;generalize (b.2-a.2)*(c.1-a.1)=R at *;have r:L-R<0↔L<R:=by constructor<;>intro h<;>grind
 have u:L-R<=0 ↔ ¬R<L:=by constructor<;>intro h<;>grind
 have v:L-R=0 ↔ ¬R<L /\ ¬L<R:=by constructor<;>intro h<;>grind
 rw[r,u,v,Gy,Gy];refine⟨?_,?_,?_⟩<;>omega
def Hld(l:List V)(c:V):Prop:=∀i,i<l.length->0<=oR (CD l i) (CD l (i+1)) c
def yu(d:Γ 45=bC){L:List D}{c a b:D}{k s:Int}(e:L2.atI L (k-1)=some a)(f:L2.atI L k=some b)(q:bC [a,b,c]=some (.val (.int s)))(g:decide (s<0)=true):
  exs Γ dN [~~~.lst L,~~~c,~~~.int k]=some (.rt (.val (.bl false))):=by
 walk_at "evh"
def qw{L:List D}{c:D}{n:Int}{o:Out}(g:(L.length:Int)=n)(i : -4611686018427387904<=n/\n<4611686018427387904)(e:forN (Bo (.name 2)) (exs Γ dN) (Bv 0 n.toNat) [~~~.lst L,~~~c,none]=some o){b:Bool}(h:(b=true/\∃f,o=.nx f)\/(b=false/\o=.rt (.val (.bl false)))):run Γ fo 3 [.lst L,c]=some (.val (.bl b)):=by
 have d:fo=.cons (.frr (.name 2) (.range1 (.bi .len #v[.var 0])) dN) #v[.ret (.bl true)]:=rfl;rw[d];generalize dN=j at *;rcases h with⟨rfl,f,rfl⟩|⟨rfl,rfl⟩
 ·clear d;walk_at "evh"
 ·clear d;walk_at "evh"
def qx{l:List V}{c:V}{m n:Nat}(B:0<l.length)(U:l.length<=1000)(C:DY m l)(K:Sz n c.1/\Sz n c.2)(L:m<=600)(M:n<=4300:=by decide)(N:n+m+1<=4400:=by decide):∃b:Bool,bZ [.lst (l.map CC),CC c]=some (.val (.bl b))/\(b=true↔Hld l c):=by
 unfold bZ;have o:tab [(45,bC)] 45=bC:=rfl;have O:∀j,j<l.length->CD l (pv l.length j+1)=CD l j:=λj g=>by
  unfold pv;split
  ·next z=>rw[z,show l.length-1+1=0+l.length by omega,gO]
  ·next z=>rw[show j-1+1=j by omega]
 have P:∀d∈Bv 0 l.length,∀u:CB,(∃t,u=[~~~.lst (l.map CC),~~~CC c,t])->∃h,Bo (.name 2) d u=some h/\(((∃j:Nat,d=.int (j:Int)/\0<=oR (CD l (pv l.length j)) (CD l j) c)/\∃p,exs (tab [(45,bC)]) dN h=some (.nx p)/\∃t,p=[~~~.lst (l.map CC),~~~CC c,t])\/((¬ ∃j:Nat,d=.int (j:Int)/\0<=oR (CD l (pv l.length j)) (CD l j) c)/\exs (tab [(45,bC)]) dN h=some (.rt (.val (.bl false))))):=by
  rintro d q u ⟨t,rfl⟩
  rw[Ef] at q;obtain⟨j,g,rfl⟩:=Zt.mp q
  have g:=Ym.mp g;have E:L2.atI (l.map CC) ((j:Int)-1)=some (CC (CD l (pv l.length j))):=by
   rw[mj];refine dq (f:=λi=>CC (CD l i)) (bL g) ?_;unfold pv;split<;>omega
  have F:L2.atI (l.map CC) (j:Int)=some (CC (CD l j)):=by
   rw[mj];exact dq (f:=λi=>CC (CD l i)) g (.inl rfl)
  obtain⟨s,G,I,_⟩:=mv (C _ (Bs B (pv l.length j))) (C _ (Bs B j)) K L M N
  refine⟨_,rfl,?_⟩
  by_cases z:s<0
  ·right
   refine⟨?_,yu o E F G (decide_eq_true z)⟩
   rintro⟨v,e,k⟩
   have:v=j:=by injection e;omega
   subst this;have:=I.mp z
   grind
  ·left
   refine⟨⟨j,rfl,?_⟩,_,xJ o E F G (decide_eq_false z),_,rfl⟩
   by_cases y:0<=oR (CD l (pv l.length j)) (CD l j) c
   ·exact y
   ·exact absurd (I.mpr (by grind)) z
 have J : -4611686018427387904<=(l.length:Int)/\(l.length:Int)<4611686018427387904:=⟨by omega,by omega⟩;have r:((l.map CC).length:Int)=(l.length:Int):=by rw[Zc]
 have w:∀j,j<l.length->D.int (j:Int)∈Bv 0 l.length:=λj g=>by rw[Ef];exact Zt.mpr ⟨j,Ym.mpr g,rfl⟩
 rcases mu (fb:=exs (tab [(45,bC)]) dN) _ _ [~~~.lst (l.map CC),~~~CC c,none] ⟨none,rfl⟩ P with⟨a,Q,e,_⟩|⟨⟨d,q,R⟩,e⟩
 ·refine⟨true,qw r J (by rw[Zz];exact e) (.inl ⟨rfl,_,rfl⟩),λ_ i A=>?_,λ_=>rfl⟩
  have S:=bM (n:=l.length) A;obtain⟨v,T,k⟩:=a _ (w (nx l.length i) S)
  have:v=nx l.length i:=by injection T;omega
  subst this;rw[eh A] at k;have:CD l (nx l.length i)=CD l (i+1):=by unfold CD;rw[jD A,Jk]
  rw[<-this];exact k
 ·refine⟨false,qw r J (by rw[Zz];exact e) (.inr ⟨rfl,rfl⟩),⟨λz=>(by cases z),λH=>?_⟩⟩
  rw[Ef] at q;obtain⟨j,g,rfl⟩:=Zt.mp q
  have g:=Ym.mp g;have:=H _ (bL g)
  rw[O j g] at this;exact absurd ⟨j,rfl,this⟩ R
def mw{l:List V}(i:IsShp l)(c:V):Hld l c↔Er l c:=by
 have key:∀j,j<l.length->(0<=oR (CD l j) (CD l (j+1)) c↔(((hS l j).2.2:Int):Rat)<=xr (wy (hS l j)) c):=λj d=>by
  obtain⟨k,g,w,e⟩:=gU i j
  rw[e,w];have f:xr (sm k (ed (CD l) j)) c-xr (sm k (ed (CD l) j)) (CD l j)=k*oR (CD l j) (CD l (j+1)) c:=by unfold xr sm ed oR mn;grind
  constructor
  ·intro h;have:=Zp (Z5 g) h
   grind
  ·intro h;by_cases y:0<=oR (CD l j) (CD l (j+1)) c
   ·exact y
   ·have:=Zq g (show 0 < -(oR (CD l j) (CD l (j+1)) c) by grind)
    grind
 exact⟨λh j d=>(key j d).mp (h j d),λh j d=>(key j d).mpr (h j d)⟩
end
open Sf
open Mg Fi PySem
section
variable{Γ:Nat->∅}
def qz{r:List V}{t:Rat}{v:V}{m k n:Nat}(E:r.length<=1000)(z:DY m r)(h:Sz k t)(o:Sz n v.1/\Sz n v.2)(G:m+k<=4400)(H:n<=4400):cw [.lst (r.map CC),fr t,CC v]=some (.new (r.map λq=>CC (Di t v q))):=by
 unfold cw;generalize g:tab fF=Γ;have i:Γ 108=bx:=by rw[<-g];rfl
 have p:Γ 74=cD:=by rw[<-g];rfl
 have J:(1000:Nat)<=PySem.sizeLine:=by decide
 obtain⟨K,f,s,u,l,rfl⟩:=jH (bt:=Bo (.tup [4,5])) (fb:=exs Γ qc) (I:=λj A=>∃s u l,A=[~~~.lst (r.map CC),~~~fr t,~~~CC v,some (.ow ((r.take j).map λq=>CC (Di t v q))),s,u,l]) (r.map CC) 0 [~~~.lst (r.map CC),~~~fr t,~~~CC v,some (.ow []),none,none,none] ⟨none,none,none,rfl⟩ λj d A B M=>by
  obtain⟨s,u,l,rfl⟩:=M
  rw[Zm] at B;obtain⟨q,w,e⟩:=Zb.mp B
  subst e;obtain⟨C,D⟩:=z q (Yh w)
  have N:=C.mul h;have P:=D.mul h;refine⟨[~~~.lst (r.map CC),~~~fr t,~~~CC v,some (.ow ((r.take (0+j)).map λq=>CC (Di t v q))),~~~fr q.1,~~~fr q.2,l],_,rfl,xK i p rfl rfl (gX C h vB vB) (gX D h vB vB) (jU N o.1 vB vB) (jU P o.2 vB vB) (eq_true ?_),~~~fr q.1,~~~fr q.2,~~~fr (q.1*t+v.1),?_⟩
  ·have:=(Zi.mp w).1
   rw[Zc,Wb];omega
  ·rw[W8,Jz,w,Yl];rfl
 rw[W8,Zc,Jl] at f;unfold lx;generalize r.map (λq=>CC (Di t v q))=O at *;generalize r.map CC=L at *;generalize CC v=V at *;generalize fr t=F at *;clear z h o E g G H J;walk_at "evh"
def cH:∅:=run (tab [(110,dm)]) gB 2
def ok_law_ahead(d:Γ 110=dm):∀e w,e.length=2->cH e=some w->run Γ gB 2 e=some w:=λe w _ h=>bq [(110,dm)] (λp f=>by
 simp only[Zf,Zk,or_false] at f;subst f;exact d) vA e w h
def Hq(x y:Rat):CI .ne (fr x) (fr y)=some (!decide (x=y)):=by
 have h:=Hr x y;unfold fr at *;rw[oD] at h;rw[oE];split at h
 ·next c=>rw[if_pos c,Zs h]
 ·cases h
def yv{φ:∅}(g:Γ 110=φ){f h B1 B2:D}{b c d:Bool}(e:CI .ne f B1=some b)(i:φ [f,B1]=some (.val (.bl c)))(j:φ [h,B2]=some (.val (.bl d))):run Γ gB 2 [.tup [f,h],.tup [B1,B2]]=some (.val (.bl (if b=true then c else d))):=by
 unfold gB;cases b
 ·walk_at "evh"
 ·walk_at "evh"
def g0{a b:V}{m n:Nat}(d:Sz m a.1/\Sz m a.2)(f:Sz n b.1/\Sz n b.2)(g:m<=4400)(i:n<=4400):∃c:Bool,cH [CC a,CC b]=some (.val (.bl c))/\(c=true↔CZ a b):=by
 have j:dm [fr a.1,fr b.1]=some (.val (.bl (decide (a.1<b.1)))):=bz (Br d.1 f.1 g i);have l:dm [fr a.2,fr b.2]=some (.val (.bl (decide (a.2<b.2)))):=bz (Br d.2 f.2 g i);refine⟨_,yv (Γ:=tab [(110,dm)]) (φ:=dm) rfl (Hq _ _) j l,?_⟩
 unfold CZ;by_cases e:a.1=b.1
 ·rw[decide_eq_true e,if_neg vA,decide_eq_true_eq];constructor
  ·intro h;exact .inr ⟨e,h⟩
  ·rintro(h|⟨_,h⟩)
   ·rw[e] at h;grind
   ·exact h
 ·rw[decide_eq_false e,if_pos (show(!false)=true from rfl),decide_eq_true_eq];constructor
  ·intro h;exact .inl h
  ·rintro(h|⟨h,_⟩)
   ·exact h
   ·exact absurd h e
abbrev cS:List (Nat×(∅)):=[(113,cw),(112,bZ)]
def cx:∅:=run (tab cS) gG 4
def ok_law_fits(e:Γ 113=cw)(f:Γ 112=bZ):∀d w,d.length=3->cx d=some w->run Γ gG 4 d=some w:=λd w _ h=>bq cS (by
 intro p g;simp only[cS,Zf,Zk,or_false] at g;rcases g with rfl|rfl<;>assumption) vA d w h
abbrev dO:Ss:=#v[.iff (.not (.call 112 #v[.var 0,.var 3])) #v[.ret (.bl false)] .nil]
def yw(e:Γ 112=bZ){d f g c:D}(q:bZ [d,c]=some (.val (.bl true))):exs Γ dO [~~~d,~~~f,~~~g,~~~c]=some (.nx [~~~d,~~~f,~~~g,~~~c]):=by
 walk_at "evh"
def yx(d:Γ 112=bZ){e f g c:D}(q:bZ [e,c]=some (.val (.bl false))):exs Γ dO [~~~e,~~~f,~~~g,~~~c]=some (.rt (.val (.bl false))):=by
 walk_at "evh"
def qA(h:Γ 113=cw){i d f:D}{M:List D}{o:Out}(m:lfL M=true)(q:cw [d,.tup [.int 1,.int 1],f]=some (.new M))(e:forN (Bo (.name 3)) (exs Γ dO) M [~~~i,~~~d,~~~f,none]=some o){b:Bool}(l:(b=true/\∃j,o=.nx j)\/(b=false/\o=.rt (.val (.bl false)))):run Γ gG 4 [i,d,f]=some (.val (.bl b)):=by
 have g:gG=.cons (.frr (.name 3) (.seq (.call 113 #v[.var 1,.tup #v[.int 1,.int 1],.var 2])) dO) #v[.ret (.bl true)]:=rfl;rw[g];generalize dO=n at *;rcases l with⟨rfl,j,rfl⟩|⟨rfl,rfl⟩
 ·clear g;walk_at "evh"
 ·clear g;walk_at "evh"
def yy{l r:List V}{u:V}{n:Nat}(p:IsShp l)(J:l.length<=1000)(K:r.length<=1000)(L:DY 62 l)(s:SyL 70 10 r)(i:Sy n (n-290) u.1/\Sy n (n-290) u.2)(T:n<=4100)(U:290<=n):∃b:Bool,cx [.lst (l.map CC),.lst (r.map CC),CC u]=some (.val (.bl b))/\(b=true↔DZ l r u):=by
 have w:=p.three;have one:Sz 1 (1:Rat):=⟨by decide,by decide⟩;have M:Sz n u.1/\Sz n u.2:=⟨i.1.sz vB vB,i.2.sz vB vB⟩;have A:=qz (r:=r) (t:=1) (v:=u) (m:=70) K (s.sz vA vA) one M vA vB;have N:fr 1=.tup [.int 1,.int 1]:=rfl;rw[N] at A;have j:∀q,Di 1 u q=sp 1 u q:=λq=>by unfold Di sp;exact Yt (by dsimp only;grind) (by dsimp only;grind)
 have F:lfL (r.map λq=>CC (Di 1 u q))=true:=by
  have:=bW (r.map (Di 1 u))
  rw[Yg] at this;exact this
 have O:∀q∈r,Sz 4120 (Di 1 u q).1/\Sz 4120 (Di 1 u q).2:=λq f=>by
  unfold Di;rw[Rat.mul_one,Rat.mul_one];exact⟨((s q f).1.add i.1 (k:=n+10) vB vB).sz vB vB,((s q f).2.add i.2 (k:=n+10) vB vB).sz vB vB⟩
 have P:∀d∈r.map (λq=>CC (Di 1 u q)),∀B:CB,(∃o,B=[~~~.lst (l.map CC),~~~.lst (r.map CC),~~~CC u,o])->∃g,Bo (.name 3) d B=some g/\(((∃q∈r,d=CC (Di 1 u q)/\Er l (sp 1 u q))/\∃h,exs (tab cS) dO g=some (.nx h)/\∃o,h=[~~~.lst (l.map CC),~~~.lst (r.map CC),~~~CC u,o])\/((¬ ∃q∈r,d=CC (Di 1 u q)/\Er l (sp 1 u q))/\exs (tab cS) dO g=some (.rt (.val (.bl false))))):=by
  rintro d C B ⟨o,rfl⟩
  obtain⟨q,f,rfl⟩:=Zt.mp C
  obtain⟨b,G,I⟩:=qx (l:=l) (c:=Di 1 u q) vB J L (O q f) vA
  refine⟨_,rfl,?_⟩
  cases b with
  |true=>
   left
   refine⟨⟨q,f,rfl,?_⟩,_,yw (Γ:=tab cS) rfl G,_,rfl⟩
   rw[<-j];exact(mw p _).mp (I.mp rfl)
  |false=>
   right
   refine⟨?_,yx (Γ:=tab cS) rfl G⟩
   rintro⟨D,E,e,k⟩
   have:=I.mpr (by rw[jM (a:=Di 1 u q) (b:=Di 1 u D) (by rw[e];exact gK 50 _ rfl),j];exact(mw p _).mpr k)
   cases this
 unfold cx;rcases mu (fb:=exs (tab cS) dO) _ _ [~~~.lst (l.map CC),~~~.lst (r.map CC),~~~CC u,none] ⟨none,rfl⟩ P with⟨a,Q,e,_⟩|⟨⟨d,C,R⟩,e⟩
 ·refine⟨true,qA (Γ:=tab cS) rfl F A e (.inl ⟨rfl,_,rfl⟩),λ_ q f=>?_,λ_=>rfl⟩
  obtain⟨D,E,S,k⟩:=a _ (Zt.mpr ⟨q,f,rfl⟩)
  rw[<-j,jM (a:=Di 1 u q) (b:=Di 1 u D) (by rw[S];exact gK 50 _ rfl),j];exact k
 ·refine⟨false,qA (Γ:=tab cS) rfl F A e (.inr ⟨rfl,rfl⟩),⟨λz=>(by cases z),λH=>?_⟩⟩
  obtain⟨q,f,rfl⟩:=Zt.mp C
  exact absurd ⟨q,f,rfl,H q f⟩ R
end
open Sf
open Mg Fi PySem
section
variable{Γ:Nat->∅}
def D9:Nat->Int->Int
 |0,n=>n
 |k+1,n=>D9 k n/5
theorem Fo:∀k,D9 k 0=0
 |0=>rfl
 |k+1=>by show D9 k 0/5=0;rw[Fo k];rfl
def fJ:∅:=run (tab []) gA 4
def ok_law_digit:∀d w,d.length=3->fJ d=some w->run Γ gA 4 d=some w:=λd w _ h=>bq [] (λp e=>by cases e) vA d w h
abbrev hB:Ss:=#v[.asg 0 (.bin .fdiv (.var 0) (.var 1))]
def yz{n:Int}{K J:D}:exs Γ hB [~~~.int n,~~~.int 5,~~~K,~~~J]=some (.nx [~~~.int (n/5),~~~.int 5,~~~K,~~~J]):=by
 have d:n.fdiv 5=n/5:=dY vA;have e:br 5=true:=dZ vA vA;walk_at "evh"
def yA{n m k:Int}{f:Option B}(g : -4611686018427387904<=k/\k<4611686018427387904)(e:forN (Bo (.name 3)) (exs Γ hB) (Bv 0 k.toNat) [~~~.int n,~~~.int 5,~~~.int k,none]=some (.nx [~~~.int m,~~~.int 5,~~~.int k,f])):run Γ gA 4 [.int n,.int 5,.int k]=some (.val (.int (m%5))):=by
 have h:m.fmod 5=m%5:=bP vA;have d:gA=.cons (.frr (.name 3) (.range1 (.var 2)) hB) #v[.ret (.bin .mod (.var 0) (.var 1))]:=rfl;rw[d];generalize hB=i at *;clear d;walk_at "evh"
def yB{n:Int}{k:Nat}(i:k<=1000):fJ [.int n,.int 5,.int (k:Int)]=some (.val (.int (D9 k n%5))):=by
 obtain⟨g,e,d,rfl⟩:=fy (bt:=Bo (.name 3)) (fb:=exs (tab []) hB) (I:=λj f=>∃d,f=[~~~.int (D9 j n),~~~.int 5,~~~.int (k:Int),d]) k [~~~.int n,~~~.int 5,~~~.int (k:Int),none] ⟨none,rfl⟩ λj f l h=>by
  obtain⟨d,rfl⟩:=h
  exact⟨_,_,rfl,yz,_,rfl⟩
 exact yA ⟨by omega,by omega⟩ (by rw[Zz];exact e)
abbrev fK:List (Nat×(∅)):=[(104,fJ),(108,bx),(74,B8)]
def dP:∅:=run (tab fK) gE 7
def ok_law_mean6(e:Γ 104=fJ)(f:Γ 108=bx)(i:Γ 74=B8):∀d w,d.length=2->dP d=some w->run Γ gE 7 d=some w:=λd w _ h=>bq fK (by
 intro p g;simp only[fK,Zf,Zk,or_false] at g;rcases g with rfl|rfl|rfl<;>assumption) vA d w h
def ltQ{x:Rat}{c d:Int}{n:Nat}(f:Sz n x)(h:n<=4400)(i:c.natAbs<2^3)(g:d.natAbs<2^7)(j:0<d):B8 [.tup [.int c,.int d],fr x]=some (.val (fr (Rat.divInt c d*x))):=by
 have l:(0:Int)<(x.den:Int):=K5.mpr x.den_pos;have f:=f.mono h;have q:=fw (t:=c*x.num) (b:=d*(x.den:Int)) (Wh j l) (Zg (pG g (EJ f) (k:=4407) vA) (Bm vA));have e:Rat.divInt (c*x.num) (d*(x.den:Int))=Rat.divInt c d*x:=by
  conv=>rhs;rhs;rw[pH x]
  rw[Qs]
 rw[e] at q;exact qm (Γ:=tab [(103,bJ)]) (φ:=bJ) gn (Bf i f.t vA vA) (Bf g (EJ f) vA vA) q
abbrev jY:E:=(.comp (.bin .add (.int 1) (.call 104 #v[.var 2,.int 5,.var 1])) (.name 1) (.range1 (.bi .len #v[.var 0])) 2 [1] .non)
abbrev jZ:Ss:=#v[.seti 3 (.var 6) (.call 108 #v[.ix (.var 3) (.var 6),.call 74 #v[.tup #v[.var 4,.bi .sum #v[.var 2]],.ix (.var 5) (.var 6)]])]
abbrev eJ:Ss:=#v[.frr (.name 6) (.range1 (.int 2)) jZ]
def Fw{L:List D}{N:D}{n:Nat}(d:(L.length:Int)=(n:Int))(f:n<=1000):evW Γ (.range1 (.bi .len #v[.var 0])) [some (.lst L),some N,none,none,none,none,none]=some (Bv 0 n):=by
 have e:evd Γ (.bi .len #v[.var 0]) [some (.lst L),some N,none,none,none,none,none]=some (.int (n:Int)):=by walk_at "evh"
 rw[iZ,e,Zv,iX,Zv,if_pos ⟨by omega,by omega⟩,Zz]
def yC{d:∅}(e:Γ 104=d){L N K:D}{g:Int}(q:d [N,.int 5,K]=some (.val (.int g))):d3 Γ (.bin .add (.int 1) (.call 104 #v[.var 2,.int 5,.var 1])) (.name 1) 2 [1] .non [some L,some N,none,none,none,none,none] K=some (some (.int (1+g))):=by
 walk_at "evh"
def Fx{φ:∅}(d:Γ 104=φ){L:List D}{N:Int}{n:Nat}{g:Nat->Int}(e:(L.length:Int)=(n:Int))(f:n<=1000)(q:∀k,k<n->φ [.int N,.int 5,.int (k:Int)]=some (.val (.int (g k)))):ev Γ jY [some (.lst L),some (.int N),none,none,none,none,none]=some (.new (((List.range n).map λk=>1+g k).map D.int)):=by
 have i:((List.range n).map λ(k:Nat)=>D.int (k:Int)).length<=PySem.sizeLine:=by
  have:(1000:Nat)<=PySem.sizeLine:=by decide
  rw[Zc,Z3];omega
 rw[Yg,iY,Fw (n:=n) e f,Ef,Zv,if_pos ⟨i,rfl⟩,i0 (h:=λk=>D.int (1+g k)) (λk j=>yC d (q k (Ym.mp j)))];rfl
def qB{d e:∅}(f:Γ 108=d)(h:Γ 74=e){L N A X Y Z:D}{WS FL Q:List D}{g:List Int}{w j T:Int}{n:Nat}(i:L2.atI FL j=some A)(l:L2.atI Q j=some X)(m:cj WS=some g)(o:sumI g=T)(t:e [.tup [.int w,.int T],X]=some (.val Y))(p:d [A,Y]=some (.val Z))(q:lf Z=true)(r:L2.ixN FL.length j=some n):
  exs Γ jZ [~~~L,~~~N,~~~.lst WS,some (.ow FL),~~~.int w,~~~.tup Q,~~~.int j]=some (.nx [~~~L,~~~N,~~~.lst WS,some (.ow (FL.set n Z)),~~~.int w,~~~.tup Q,~~~.int j]):=by
 walk_at "evh"
def yD{i l:∅}(d:Γ 108=i)(e:Γ 74=l){L N A1 A2 X1 X2 Y1 Y2 g h:D}{WS:List D}{p:List Int}{w T:Int}{c6:Option B}(m:cj WS=some p)(o:sumI p=T)(t:l [.tup [.int w,.int T],X1]=some (.val Y1))(u:i [A1,Y1]=some (.val g))(l1:lf g=true)(v:l [.tup [.int w,.int T],X2]=some (.val Y2))(z:i [A2,Y2]=some (.val h))(l2:lf h=true):
  exs Γ eJ [~~~L,~~~N,~~~.lst WS,some (.ow [A1,A2]),~~~.int w,~~~.tup [X1,X2],c6]=some (.nx [~~~L,~~~N,~~~.lst WS,some (.ow [g,h]),~~~.int w,~~~.tup [X1,X2],~~~.int 1]):=by
 have q:=qB (Γ:=Γ) d e (L:=L) (N:=N) (FL:=[A1,A2]) (Q:=[X1,X2]) (j:=0) (n:=0) rfl rfl m o t u l1 rfl;have r:=qB (Γ:=Γ) d e (L:=L) (N:=N) (FL:=[g,A2]) (Q:=[X1,X2]) (j:=1) (n:=1) rfl rfl m o v z l2 rfl;have f:forN (Bo (.name 6)) (exs Γ jZ) (Bv 0 2) [~~~L,~~~N,~~~.lst WS,some (.ow [A1,A2]),~~~.int w,~~~.tup [X1,X2],c6]=some (.nx [~~~L,~~~N,~~~.lst WS,some (.ow [g,h]),~~~.int w,~~~.tup [X1,X2],~~~.int 1]):=by
  show forN _ _ [D.int 0,D.int 1] _=_;have s:∀{A:List D}{c:Option B}{j:D},Bo (.name 6) j [~~~L,~~~N,~~~.lst WS,some (.ow A),~~~.int w,~~~.tup [X1,X2],c]=some [~~~L,~~~N,~~~.lst WS,some (.ow A),~~~.int w,~~~.tup [X1,X2],~~~j]:=rfl;rw[cP s q];exact(cP s r).trans rfl
 unfold eJ;generalize jZ=C at *;clear q r m o;walk_at "evh"
def Ff(T:Int):List Int->List V->V->V
 |w::d,q::l,a=>Ff T d l (a.1+Rat.divInt w T*q.1,a.2+Rat.divInt w T*q.2)
 |_,_,a=>a
theorem qC(e:Γ 108=bx)(j:Γ 74=B8){L N:D}{WS:List D}{us:List Int}{T:Int}{a b:Nat}(C:cj WS=some us)(E:sumI us=T)(s:0<T)(r:T.natAbs<2^7):∀(d:List Int) (l:List V) (x y:Nat) (A:V) (o p g:Option B),d.length=l.length->(∀w∈d,w.natAbs<2^3)->SyL a b l->Sy x y A.1/\Sy x y A.2->a+3+y<=x+(b+7)->x+(b+8)*l.length<=4400->y<=x->a+b+10<=4400 ->
  (∃P Q R,forN (Bo (.tup [4,5])) (exs Γ eJ) (CN (d.map D.int) (l.map CC)) [~~~L,~~~N,~~~.lst WS,some (.ow [fr A.1,fr A.2]),o,p,g]=some (.nx [~~~L,~~~N,~~~.lst WS,some (.ow [fr (Ff T d l A).1,fr (Ff T d l A).2]),P,Q,R]))/\Sy (x+(b+8)*l.length) (y+(b+7)*l.length) (Ff T d l A).1/\Sy (x+(b+8)*l.length) (y+(b+7)*l.length) (Ff T d l A).2
 |[],[],x,y,A,o,p,g,_,_,_,i,_,_,_,_=>⟨⟨o,p,g,rfl⟩,i.1.mono (Wc _ _) (Wc _ _),i.2.mono (Wc _ _) (Wc _ _)⟩
 |[],_::_,_,_,_,_,_,_,h,_,_,_,_,_,_,_=>by simp at h
 |_::_,[],_,_,_,_,_,_,h,_,_,_,_,_,_,_=>by simp at h
 |w::d,q::l,x,y,A,o,p,g,h,F,G,i,i1,S,H,t=>by
  rw[Zw,Gf,Vb] at S;obtain⟨I,J⟩:=G q (.head _)
  have u:=F w (.head _);have K:Sy 3 7 (Rat.divInt w T):=di vB u r;have M:=K.mul I;have O:=K.mul J;have U:=i.1.add M (k:=x+(b+7)) vB vB;have W:=i.2.add O (k:=x+(b+7)) vB vB;have X:B8 [.tup [.int w,.int T],fr q.1]=some (.val (fr (Rat.divInt w T*q.1))):=ltQ (n:=a+b) (I.sz vB vB) vB u r s;have Y:B8 [.tup [.int w,.int T],fr q.2]=some (.val (fr (Rat.divInt w T*q.2))):=ltQ (n:=a+b) (J.sz vB vB) vB u r s;have Z:bx [fr A.1,fr (Rat.divInt w T*q.1)]=some (.val (fr (A.1+Rat.divInt w T*q.1))):=jU (m:=x) (n:=a+b+10) (i.1.sz (Zn _) H) (M.sz vB vB) vB t;have v2:bx [fr A.2,fr (Rat.divInt w T*q.2)]=some (.val (fr (A.2+Rat.divInt w T*q.2))):=jU (m:=x) (n:=a+b+10) (i.2.sz (Zn _) H) (O.sz vB vB) vB t;have st:=yD (Γ:=Γ) e j (L:=L) (N:=N) (A1:=fr A.1) (A2:=fr A.2) (X1:=fr q.1) (X2:=fr q.2) (c6:=g) C E X Z (bS _) Y v2 (bS _);obtain⟨⟨d4,d5,d6,f⟩,k1,k2⟩:=qC e j (L:=L) (N:=N) C E s r d l (x+(b+7)+1) (y+(7+b)) (A.1+Rat.divInt w T*q.1,A.2+Rat.divInt w T*q.2) (~~~.int w) (~~~CC q) (~~~.int 1) (by simpa using h) (λw v=>F w (.tail _ v)) (λq hq=>G q (.tail _ hq)) ⟨U,W⟩ vB vB vB t
  refine⟨⟨d4,d5,d6,?_⟩,?_⟩
  ·show forN _ _ (D.tup [.int w,CC q]::CN (d.map D.int) (l.map CC)) _=_;have b1:Bo (.tup [4,5]) (D.tup [.int w,CC q]) [~~~L,~~~N,~~~.lst WS,some (.ow [fr A.1,fr A.2]),o,p,g]=some [~~~L,~~~N,~~~.lst WS,some (.ow [fr A.1,fr A.2]),~~~.int w,~~~CC q,g]:=rfl;have z:exs Γ eJ [~~~L,~~~N,~~~.lst WS,some (.ow [fr A.1,fr A.2]),~~~.int w,~~~CC q,g]=_:=st;rw[cP b1 z];exact f
  ·rw[Zw,Gf,Gf,Vb,Vb];exact⟨k1.mono vB vB,k2.mono vB vB⟩
end
open Sf
open Mg Fi PySem
section
variable{Γ:Nat->∅}
def Ig{L WS d:List D}{N:D}(h:WS.length=L.length):evI Γ (.zipV 2 0) [~~~.lst L,~~~N,some (.ow WS),some (.ow d),none,none,none]=some (CN WS L,[~~~.lst L,~~~N,~~~.lst WS,some (.ow d),none,none,none]):=by
 rw[oz];have e:zipO (DV ([~~~.lst L,~~~N,some (.ow WS),some (.ow d),none,none,none]:CB)[2]?) (DV ([~~~.lst L,~~~N,some (.ow WS),some (.ow d),none,none,none]:CB)[0]?)=some (CN WS L):=by
  show(if WS.length=L.length then some (CN WS L) else none)=_;rw[if_pos h]
 rw[e];rfl
def yE{L WS Z:List D}{N d R2:D}{g h i:Option B}(k:ev Γ jY [some (.lst L),some N,none,none,none,none,none]=some (.new WS))(j:lfL WS=true)(l:evI Γ (.zipV 2 0) [~~~.lst L,~~~N,some (.ow WS),some (.ow [.tup [.int 0,.int 1],.tup [.int 0,.int 1]]),none,none,none]=some (Z,[~~~.lst L,~~~N,~~~.lst WS,some (.ow [.tup [.int 0,.int 1],.tup [.int 0,.int 1]]),none,none,none]))
 (f:forN (Bo (.tup [4,5])) (exs Γ eJ) Z [~~~.lst L,~~~N,~~~.lst WS,some (.ow [.tup [.int 0,.int 1],.tup [.int 0,.int 1]]),none,none,none]=some (.nx [~~~.lst L,~~~N,~~~.lst WS,some (.ow [d,R2]),g,h,i])):run Γ gE 7 [.lst L,N]=some (.val (.tup [d,R2])):=by
 have e:gE=.cons (.asg 2 jY) #v[.asg 3 (.lst #v[.tup #v[.int 0,.int 1],.tup #v[.int 0,.int 1]]),.frr (.tup [4,5]) (.zipV 2 0) eJ,.ret (.tup #v[.ix (.var 3) (.int 0),.ix (.var 3) (.int 1)])]:=rfl;rw[e];generalize eJ=m at *;generalize jY=n at *;generalize It'.zipV 2 0=o at *;clear e;walk_at "evh"
theorem qD{d:V}{c:Rat}{T:Int}(j:0<T):∀(f:List Int) (l:List V) (a:V),f.length=l.length->(∀w∈f,0<=w)->(∀q∈l,c<=xr d q)->xr d a+(sumI f:Rat)*(T:Rat)⁻¹*c<=xr d (Ff T f l a)
 |[],[],a,_,_,_=>by
  show xr d a+((0:Int):Rat)*(T:Rat)⁻¹*c<=xr d a;have:((0:Int):Rat)=0:=rfl
  rw[this];grind
 |[],_::_,_,h,_,_=>by simp at h
 |_::_,[],_,h,_,_=>by simp at h
 |w::f,q::l,a,h,m,n=>by
  have o:=qD (d:=d) (c:=c) j f l (a.1+Rat.divInt w T*q.1,a.2+Rat.divInt w T*q.2) (by simpa using h) (λw g=>m w (.tail _ g)) (λq i=>n q (.tail _ i));have tp:(0:Rat)<(T:Rat)⁻¹:=K0.mpr (cast_pos.mpr j);have p:(0:Rat)<=(w:Rat):=by
   have:=Jq.mpr (m w (.head _))
   exact this
  have k:=Zp (Zp p (Z5 tp)) (show 0<=xr d q-c by have:=n q (.head _);grind);show xr d a+((w+sumI f:Int):Rat)*(T:Rat)⁻¹*c<=xr d (Ff T f l _);refine Kn ?_ o;rw[DK,K4];have e:xr d (a.1+(w:Rat)*(T:Rat)⁻¹*q.1,a.2+(w:Rat)*(T:Rat)⁻¹*q.2)=xr d a+(w:Rat)*(T:Rat)⁻¹*xr d q:=by unfold xr;grind
  rw[e];grind
theorem qE:∀e:List Int,(∀w∈e,1<=w/\w<=5)->(e.length:Int)<=sumI e/\sumI e<=5*(e.length:Int)
 |[],_=>⟨by decide,by decide⟩
 |w::e,h=>by
  obtain⟨a,b⟩:=qE e λw f=>h w (.tail _ f)
  obtain⟨c,d⟩:=h w (.head _)
  show((e.length+1:Nat):Int)<=w+sumI e/\w+sumI e<=5*((e.length+1:Nat):Int);omega
structure MeanIs(l:List V)(N:Int)(m:V)(x y:Nat):Prop where
 sy:Sy x y m.1/\Sy x y m.2
 low:∀d c,(∀q∈l,c<=xr d q)->c<=xr d m
 mid:N=0->∀p q,l=[p,q]->2*m.1=p.1+q.1/\2*m.2=p.2+q.2
def hH{l:List V}{N:Int}{a b:Nat}(S:1<=l.length)(r:l.length<=15)(F:SyL a b l)(U:a+5+(b+8)*15<=4400):∃m,dP [.lst (l.map CC),.int N]=some (.val (CC m))/\MeanIs l N m (a+5+(b+8)*15) (1+(b+7)*15):=by
 have i:((List.range l.length).map λk=>1+D9 k N%5).length=l.length:=by rw[Zc,Z3]
 have o:∀w∈(List.range l.length).map (λk=>1+D9 k N%5),1<=w/\w<=5:=λw s=>by
  obtain⟨k,_,rfl⟩:=Zt.mp s
  omega
 have G:=Fx (Γ:=tab fK) (φ:=fJ) rfl (L:=l.map CC) (N:=N) (n:=l.length) (g:=λk=>D9 k N%5) (by rw[Zc]) vB λk W=>yB vB
 have B:N=0->∀k,1+D9 k N%5=1:=λe k=>by rw[e,Fo];rfl
 have v:N=0->∀p q,l=[p,q]->(List.range l.length).map (λk=>1+D9 k N%5)=[1,1]:=λe p q t=>by
  rw[t];show [1+D9 0 N%5,1+D9 1 N%5]=_;rw[B e,B e]
 generalize H:(List.range l.length).map (λk=>1+D9 k N%5)=j at *;obtain⟨I,J⟩:=qE j o
 generalize u:sumI j=T at *;rw[i] at I J;have C:0<T:=by omega
 have K:T.natAbs<2^7:=by omega
 have E:Sy 1 1 (0:Rat):=⟨by decide,by decide⟩;have X:(b+8)*l.length<=(b+8)*15:=Ge _ r;have M:(b+7)*l.length<=(b+7)*15:=Ge _ r;obtain⟨⟨Y,Z,c6,f⟩,O,P⟩:=qC (Γ:=tab fK) rfl rfl (L:=.lst (l.map CC)) (N:=.int N) (WS:=j.map D.int) (us:=j) (T:=T) (a:=a) (b:=b) (lZ j) u C K j l (a+5) 1 (0,0) none none none i (λw s=>by have:=o w s;omega) F ⟨E.mono vB vB,E.mono vB vB⟩ vB vB vB vB
 refine⟨Ff T j l (0,0),yE (Γ:=tab fK) G (ei _) (Ig (by rw[Zc,Zc,i])) f,⟨⟨O.mono vB vB,P.mono vB vB⟩,λd c Q=>?_,λe p q t=>?_⟩⟩
 ·have:=qD (d:=d) (c:=c) C j l (0,0) i (λw s=>by have:=o w s;omega) Q
  rw[u,Qp _ (λz=>by have:=Qi.mp z;omega)] at this;have z:xr d (0,0)=0:=by unfold xr;grind
  rw[z] at this;grind
 ·have A:=v e p q t;rw[A] at u |-;have:T=2:=by rw[<-u];rfl
  rw[this,t];show 2*((0+Rat.divInt 1 2*p.1)+Rat.divInt 1 2*q.1)=_/\2*((0+Rat.divInt 1 2*p.2)+Rat.divInt 1 2*q.2)=_;have h:Rat.divInt 1 2*2=1:=by
   rw[DK];have R:((1:Int):Rat)=1:=rfl;have A:((2:Int):Rat)=2:=rfl;rw[R,A];grind
  generalize Rat.divInt 1 2=z at *;constructor<;>grind
abbrev j0:List (Nat×(∅)):=[(54,dP),(108,bx)]
def fM:∅:=run (tab j0) gF 6
def ok_law_push6(g:Γ 54=dP)(e:Γ 108=bx):∀d w,d.length=3->fM d=some w->run Γ gF 6 d=some w:=λd w _ h=>bq j0 (by
 intro p f;simp only[j0,Zf,Zk,or_false] at f;rcases f with rfl|rfl<;>assumption) vA d w h
def yF{d e:∅}(i:Γ 54=d)(h:Γ 108=e){L O X1 X2 f g:D}{N n1 d1 n2 d2:Int}(j:d [L,.int N]=some (.val (.tup [X1,X2])))(l1:lf X1=true)(l2:lf X2=true)(l:d [O,.int (N/3125)]=some (.val (.tup [.tup [.int n1,.int d1],.tup [.int n2,.int d2]])))(m:e [X1,.tup [.int (0-n1),.int d1]]=some (.val f))(n:lf f=true)(o:e [X2,.tup [.int (0-n2),.int d2]]=some (.val g))(p:lf g=true):
  run Γ gF 6 [L,O,.int N]=some (.val (.tup [f,g])):=by
 have q:N.fdiv 3125=N/3125:=dY vA;have r:br 3125=true:=dZ vA vA;unfold gF;walk_at "evh"
def yG{l r:List V}{N:Int}(l1:1<=l.length)(f:l.length<=15)(h:1<=r.length)(g:r.length<=15)(i:SyL 62 3 l)(j:SyL 70 10 r):∃u:V,fM [.lst (l.map CC),.lst (r.map CC),.int N]=some (.val (CC u))/\Sy 800 500 u.1/\Sy 800 500 u.2:=by
 obtain⟨m,o,p⟩:=hH (l:=l) (N:=N) l1 f i vA
 obtain⟨k,q,s⟩:=hH (l:=r) (N:=N/3125) h g j vA
 have d:=p.sy;have e:=s.sy;refine⟨(m.1-k.1,m.2-k.2),yF (Γ:=tab j0) rfl rfl o (bS _) (bS _) q (ew (m:=800) (n:=800) (d.1.sz vA vA) (e.1.sz vA vA) vA vA) (bS _) (ew (m:=800) (n:=800) (d.2.sz vA vA) (e.2.sz vA vA) vA vA) (bS _),?_,?_⟩
 ·exact(d.1.sub e.1 (k:=700) vA vA).mono vA vA
 ·exact(d.2.sub e.2 (k:=700) vA vA).mono vA vA
end
open Sf
open Mg Fi PySem
section
variable{Γ:Nat->∅}
abbrev j3:List (Nat×(∅)):=[(108,bx),(74,B8),(113,cw)]
def hJ:∅:=run (tab j3) gD 6
def ok_law_nearer(e:Γ 108=bx)(i:Γ 74=B8)(f:Γ 113=cw):∀d w,d.length=2->hJ d=some w->run Γ gD 6 d=some w:=λd w _ h=>bq j3 (by
 intro p g;simp only[j3,Zf,Zk,or_false] at g;rcases g with rfl|rfl|rfl<;>assumption) vA d w h
def yH{φ ψ χ:∅}(d:Γ 108=φ)(f:Γ 74=ψ)(e:Γ 113=χ){L O:List D}{N n i b0 b1:Int}{X1 X2 R Y1 Y2:D}(j:(L.length:Int)=n)(l:(n=0)=False)(m:N.fmod n=i)(o:L2.atI L i=some (.tup [X1,X2]))(g:lf X1=true)(h:lf X2=true)(p:L2.atI [D.tup [.int 1,.int 2],.tup [.int 2,.int 3],.tup [.int 1,.int 1]] (N/7%3)=some (.tup [.int b0,.int b1]))
 (q:φ [.tup [.int 1,.int 1],.tup [.int (0-b0),.int b1]]=some (.val R))(r:lf R=true)(s:ψ [X1,R]=some (.val Y1))(l1:lf Y1=true)(t:ψ [X2,R]=some (.val Y2))(l2:lf Y2=true)(u:χ [.lst L,.tup [.int b0,.int b1],.tup [Y1,Y2]]=some (.new O)):
  run Γ gD 6 [.lst L,.int N]=some (.new O):=by
 have v:N.fdiv 7=N/7:=dY vA;have w:(N/7).fmod 3=N/7%3:=bP vA;have z:br 7=true:=dZ vA vA;unfold gD;walk_at "evh"
def JK(t:Rat)(v q:V):Di t v q=pl v (sc t q):=by unfold Di pl sc;exact Yt (by dsimp only;grind) (by dsimp only;grind)
def my{l:List V}(h:Sh5 l){N:Int}{t:Rat}(d:Sy 2 2 t)(g:Sy 2 2 (1-t))(B:0<t)(C:L2.atI [D.tup [.int 1,.int 2],.tup [.int 2,.int 3],.tup [.int 1,.int 1]] (N/7%3)=some (fr t)):∃r,IsShp r/\r.length=l.length/\SyL 70 10 r/\hJ [.lst (l.map CC),.int N]=some (.new (r.map CC)):=by
 have j:=h.shp.three;have E:=h.few;obtain⟨i,F,e⟩:∃i:Nat,i<l.length/\N%(l.length:Int)=(i:Int):=by
  have S:=Wt N (show(l.length:Int)≠0 by omega);have T:=Qq N (show(0:Int)<(l.length:Int) by omega);exact⟨(N%(l.length:Int)).toNat,by omega,by omega⟩
 have gi:l[i]? = some l[i]:=Zj F;generalize l[i]=p at gi;obtain⟨s,u⟩:=h.sy p (Yh gi)
 have o:L2.atI (l.map CC) (i:Int)=some (.tup [fr p.1,fr p.2]):=jF (by rw[Zm,gi];rfl);have one:Sz 1 (1:Rat):=⟨by decide,by decide⟩;have f:∀{a b:Nat}{y:Rat},Sy a b y->a<=100->b<=100->Sz 100 y:=λG H I=>G.sz H I
 have J:DY 100 l:=h.sy.sz vA vA;have z:=s.mul g;have A:=u.mul g;refine⟨l.map (Di t (p.1*(1-t),p.2*(1-t))),?_,by rw[Zc],λq K=>?_,?_⟩
 ·have:l.map (Di t (p.1*(1-t),p.2*(1-t)))=(l.map (sc t)).map (pl (p.1*(1-t),p.2*(1-t))):=by
   rw[Yg];exact Y5 λq _=>JK _ _ _
  rw[this];exact Mg.IsShp.pushed (Mg.IsShp.sized h.shp B) _
 ·obtain⟨w,L,M⟩:=Zt.mp K
  obtain⟨O,P⟩:=h.sy w L
  rw[<-M];exact⟨((O.mul d).add z (k:=69) vA vA).mono vA vA,((P.mul d).add A (k:=69) vA vA).mono vA vA⟩
 ·have Q:=qz (r:=l) (t:=t) (v:=(p.1*(1-t),p.2*(1-t))) (m:=100) (k:=100) (n:=100) vB J (f d vA vA) ⟨f z vA vA,f A vA vA⟩ vA vA;have o1:D.tup [.int 1,.int 1]=fr 1:=rfl;rw[Yg];refine yH (Γ:=tab j3) (φ:=bx) (ψ:=B8) (χ:=cw) rfl rfl rfl (n:=(l.length:Int)) (i:=(i:Int)) (b0:=t.num) (b1:=(t.den:Int)) (X1:=fr p.1) (X2:=fr p.2) (R:=fr (1-t)) (Y1:=fr (p.1*(1-t))) (Y2:=fr (p.2*(1-t))) (by rw[Zc]) (eq_false vB) (by rw[bP vB];exact e) o (bS _) (bS _) C ?_ (bS _) (JM (f s vA vA) (f g vA vA) vA vA) (bS _) (JM (f u vA vA) (f g vA vA) vA vA) (bS _) Q;rw[o1];exact ew one (f d vA vA) vA vA
def yI{l:List V}(h:Sh5 l)(N:Int):∃r,IsShp r/\r.length=l.length/\SyL 70 10 r/\hJ [.lst (l.map CC),.int N]=some (.new (r.map CC)):=by
 rcases(show N/7%3=0\/N/7%3=1\/N/7%3=2 by omega) with z|z|z
 ·exact my h (t:=Rat.divInt 1 2) (di vA vA vA) (by
   have:1-Rat.divInt 1 2=Rat.divInt 1 2:=by
    rw[DK];have d:((1:Int):Rat)=1:=rfl;have e:((2:Int):Rat)=2:=rfl;rw[d,e];grind
   rw[this];exact di vA vA vA) (by rw[Kj,Ki];exact Zq (cast_pos.mpr vA) (K0.mpr (cast_pos.mpr vA))) (by rw[z];rfl)
 ·exact my h (t:=Rat.divInt 2 3) (di vA vA vA) (by
   have:1-Rat.divInt 2 3=Rat.divInt 1 3:=by
    rw[DK,DK];have d:((1:Int):Rat)=1:=rfl;have e:((2:Int):Rat)=2:=rfl;have f:((3:Int):Rat)=3:=rfl;rw[d,e,f];grind
   rw[this];exact di vA vA vA) (by rw[Kj,Ki];exact Zq (cast_pos.mpr vA) (K0.mpr (cast_pos.mpr vA))) (by rw[z];rfl)
 ·exact my h (t:=1) ⟨by decide,by decide⟩ (by rw[show(1:Rat)-1=0 by grind];exact⟨by decide,by decide⟩) vA (by rw[z];rfl)
def eK(a b c:V):oR b c a=oR a b c:=by unfold oR;grind
def LR{a b c d:V}(l1:CZ a b)(l2:CZ a c)(j:CZ a d)(o1:0<oR a b c)(o2:0<oR a b d)(o3:0<oR a c d)(o4:0<oR b c d):IsShp [a,b,c,d]:=by
 refine⟨by simp,λk n q l m=>?_,λk x y z f e g nx i=>?_⟩
 ·cases l;match k,m with
  |0,h=>cases h;exact l1
  |1,h=>cases h;exact l2
  |2,h=>cases h;exact j
  |k+3,h=>simp at h
 ·simp only[Zf,Zk,or_false] at g;match k,f,e with
  |0,f,e=>
   have f:some d=some x:=by simpa using f
   have e:some a=some y:=e;cases f;cases e
   rcases g with rfl|rfl|rfl|rfl
   ·exact absurd rfl i
   ·rw[<-eK] at o2;rw[<-eK] at o2;exact o2
   ·rw[<-eK] at o3;rw[<-eK] at o3;exact o3
   ·exact absurd rfl nx
  |1,f,e=>
   have f:some a=some x:=by simpa using f
   have e:some b=some y:=e;cases f;cases e
   rcases g with rfl|rfl|rfl|rfl
   ·exact absurd rfl nx
   ·exact absurd rfl i
   ·exact o1
   ·exact o2
  |2,f,e=>
   have f:some b=some x:=by simpa using f
   have e:some c=some y:=e;cases f;cases e
   rcases g with rfl|rfl|rfl|rfl
   ·rw[<-eK] at o1;exact o1
   ·exact absurd rfl nx
   ·exact absurd rfl i
   ·exact o4
  |3,f,e=>
   have f:some c=some x:=by simpa using f
   have e:some d=some y:=e;cases f;cases e
   rcases g with rfl|rfl|rfl|rfl
   ·rw[<-eK] at o3;exact o3
   ·rw[<-eK] at o4;exact o4
   ·exact absurd rfl nx
   ·exact absurd rfl i
  |k+4,_,e=>simp at e
def yJ{d o1 o2 o3 m n:V}(h:IsShp [d,o1,o2,o3])(q:2*m.1=d.1+o1.1)(r:2*m.2=d.2+o1.2)(n1:2*n.1=o3.1+o2.1)(n2:2*n.2=o3.2+o2.2):IsShp [d,m,n,o3]:=by
 have j:=nodup h;simp only[Wo,Zf,Zk,or_false,not_or] at j;obtain⟨⟨l,e,f⟩,⟨g,i⟩,o,_⟩:=j
 have s:=h.first 0 d o1 rfl rfl;have t:=h.first 1 d o2 rfl rfl;have p:=h.first 2 d o3 rfl rfl;have u:=h.conv 1 d o1 o2 vC vC vC (λz=>e z.symm) (λz=>g z.symm);have v:=h.conv 1 d o1 o3 vC vC vC (λz=>f z.symm) (λz=>i z.symm);have w:=h.conv 3 o2 o3 d vC vC vC e f;have A:=h.conv 3 o2 o3 o1 vC vC vC g i;refine LR ?_ ?_ p ?_ ?_ ?_ ?_
 ·unfold CZ at *;grind
 ·unfold CZ at *;grind
 ·have:4*oR d m n=oR d o1 o2+oR d o1 o3:=by unfold oR;grind
  grind
 ·have:2*oR d m o3=oR d o1 o3:=by unfold oR;grind
  grind
 ·have:2*oR d n o3=oR o2 o3 d:=by unfold oR;grind
  grind
 ·have:4*oR m n o3=oR o2 o3 d+oR o2 o3 o1:=by unfold oR;grind
  grind
def j4{p q m:Rat}(d:Sy 62 3 p)(f:Sy 62 3 q)(e:2*m=p+q):Sy 70 10 m:=by
 have:m=(p+q)*Rat.divInt 1 2:=by
  have h:Rat.divInt 1 2*2=1:=by
   rw[DK];have g:((1:Int):Rat)=1:=rfl;have i:((2:Int):Rat)=2:=rfl;rw[g,i];grind
  generalize Rat.divInt 1 2=z at *;grind
 rw[this];exact((d.add f (k:=65) vA vA).mul (di (m:=2) (n:=2) vA vA vA)).mono vA vA
end
open Sf
open Mg Fi PySem
def JL{h d:H3}{x e:Rat}(b:Hb h)(f:Hb d)(z:Sy 184 26 x)(l:Sy 184 26 e)(m:CJ h d≠0):Sy 310 240 (Fi.mt (wy h) (wy d) ((h.2.2:Rat)-1*x) ((d.2.2:Rat)-1*e)).1/\Sy 310 240 (Fi.mt (wy h) (wy d) ((h.2.2:Rat)-1*x) ((d.2.2:Rat)-1*e)).2:=by
 have em:Fi.mt (wy h) (wy d) ((h.2.2:Rat)-1*x) ((d.2.2:Rat)-1*e)=(((d.2.1:Rat)*((h.2.2:Rat)-1*x)-(h.2.1:Rat)*((d.2.2:Rat)-1*e))*Rat.divInt 1 (CJ h d),((h.1:Rat)*((d.2.2:Rat)-1*e)-(d.1:Rat)*((h.2.2:Rat)-1*x))*Rat.divInt 1 (CJ h d)):=by
  unfold Fi.mt;rw[bO,DK];have n:((1:Int):Rat)=1:=rfl;rw[n];unfold wy;exact Yt (by dsimp only;grind) (by dsimp only;grind)
 rw[em];have g:Sy 186 27 ((h.2.2:Rat)-1*x):=by rw[Kz];exact(Du b.c).sub z (k:=185) vA vA
 have i:Sy 186 27 ((d.2.2:Rat)-1*e):=by rw[Kz];exact(Du f.c).sub l (k:=185) vA vA
 have j:Sy 1 181 (Rat.divInt 1 (CJ h d)):=di m vA (bY b f);have o:=(((Du f.b).mul g).sub ((Du b.b).mul i) (k:=304) vA vA).mul j;have p:=(((Du b.a).mul i).sub ((Du f.a).mul g) (k:=304) vA vA).mul j;exact⟨o.mono vA vA,p.mono vA vA⟩
def IV{l r:List V}(T:TwoS l r):SyL 310 240 (Dr l r)/\(Dr l r).length<=l.length:=by
 cases h:(CG l r).1 with
 |true=>
  have e:Dr l r=[]:=by unfold Dr;rw[if_pos h]
  rw[e];exact⟨λq j=>(by cases j),Y8 _⟩
 |false=>
  have f:=eG T.toBd2;unfold Ea at f;rw[if_neg (by rw[h];decide)] at f;have e:Dr l r=Dc ((List.range (CG l r).2.1).map (Eg l r (CG l r).2.1 (CG l r).2.2.1)):=by unfold Dr;rw[if_neg (by rw[h];decide)]
  rw[e];refine⟨λq j=>?_,?_⟩
  ·obtain⟨i,g,n⟩:=Zt.mp (dd_mem.mp j)
   have g:=Ym.mp g;rw[<-n];have o:=f.ok.bendp g;exact JL (T.hb _) (T.hb _) (T.ss _) (T.ss _) λz=>by
    have:xr (wy (hS l ((CG l r).2.2.1 (pv (CG l r).2.1 i)))) (wy (hS l ((CG l r).2.2.1 i)))=0:=by rw[bO,z];rfl
    rw[this] at o;grind
  ·have p:∀i,i<(CG l r).2.1->i<=(CG l r).2.2.1 i:=λi=>by
    induction i with
    |zero=>intro _;exact Y8 _
    |succ i s=>
     intro g;have a:=s vB;have b:=f.mono i (i+1) vB g;omega
   have m:=f.ok.three;have a:=p ((CG l r).2.1-1) vB;have b:=f.lt ((CG l r).2.1-1) vB;have d:∀L:List V,(Dc L).length<=L.length:=λL=>by
    unfold Dc;rw[Zc];exact Y9 (List.length_filter_le _ _) (by rw[W6];exact Zn _)
   refine Y9 (d _) ?_;rw[Zc,Z3];omega
def yK{l r L:List V}{u:V}(f:∀p∈L,DZ l r p)(h:∀d,∃p∈L,xr d p<=xr d u):DZ l r u:=λq g j i=>by
 obtain⟨p,m,e⟩:=h (wy (hS l j))
 have:=f p m q g j i
 rw[eD] at this |-;grind
def mz{l r L:List V}(T:Tel (DZ l r) L)(u:V):DZ l r u ↔ ∀d,∃p∈L,xr d p<=xr d u:=by
 constructor
 ·intro h d;by_cases f:d=(0,0)
  ·have g:=T.ne u h;obtain⟨p,e⟩:=List.exists_mem_of_ne_nil L g
   refine⟨p,e,?_⟩
   rw[f];unfold xr;grind
  ·obtain⟨p,e,lo⟩:=T.low (T.ne u h) d f
   exact⟨p,e,lo u h⟩
 ·exact yK λp e=>(T.mem p e).1
def yM{l r:List V}{p:V}(T:Tel (DZ l r) [p])(u:V):DZ l r u↔u=p:=by
 rw[mz T];constructor
 ·intro h;have k:∀d,xr d p<=xr d u:=λd=>by
   obtain⟨q,f,e⟩:=h d
   rw[Zx.mp f] at e;exact e
  have a:=k (1,0);have b:=k (-1,0);have c:=k (0,1);have d:=k (0,-1);unfold xr at a b c d;exact Yt (by grind) (by grind)
 ·rintro rfl d
  exact⟨u,Zx.mpr rfl,Qb⟩
def yN{l r L:List V}(T:Tel (DZ l r) L)(d:IsShp L)(u:V):DZ l r u↔Er L u:=by
 rw[mz T,Hl d]
def hU{e w:V}(g:up e)(h:up w)(x:xr e w=0):0<e.1*w.1+e.2*w.2:=by
 unfold xr at x;rcases g with a|⟨a,d⟩<;>rcases h with b|⟨b,f⟩
 ·have p:=Zq a b;have k:e.1*w.1*(e.2*w.2)=(e.2*w.1)*(e.2*w.1):=by grind
  have i:0<=(e.2*w.1)*(e.2*w.1):=by
   rcases Rat.le_total (a:=0) (b:=e.2*w.1) with z|z
   ·exact Zp z z
   ·have:=Zp (show 0 <= -(e.2*w.1) by grind) (show 0 <= -(e.2*w.1) by grind)
    grind
  by_cases z:0<=e.2*w.2
  ·grind
  ·have:=Zq p (show 0 < -(e.2*w.2) by grind)
   grind
 ·have:=Zq a f
  rw[b] at x;grind
 ·have:=Zq b d
  rw[a] at x;grind
 ·have:=Zq d f
  rw[a,b];grind
def FQ{p q u:V}(f:CZ p q):(oR p q u=0 /\ ¬CZ u p /\ ¬CZ q u) ↔ ∀d,∃z∈[p,q],xr d z<=xr d u:=by
 have f:=ltR_up.mp f;constructor
 ·rintro⟨o,C,D⟩ d
  by_cases r:u=p
  ·exact⟨p,by simp,by rw[r];exact Qb⟩
  by_cases s:u=q
  ·exact⟨q,by simp,by rw[s];exact Qb⟩
  have l:up (mn u p):=by
   rw[<-ltR_up];unfold CZ at *;by_cases z:p.1=u.1
   ·by_cases m:p.2=u.2
    ·exact absurd (Yt z.symm m.symm) r
    ·grind
   ·grind
  have A:up (mn q u):=by
   rw[<-ltR_up];unfold CZ at *;by_cases z:q.1=u.1
   ·by_cases m:q.2=u.2
    ·exact absurd (Yt z.symm m.symm) s
    ·grind
   ·grind
  have t:xr (mn u p) (mn q u)=0:=by unfold oR at o;unfold xr mn;grind
  have g:=hU l A t;have B:=hU l l (by unfold xr;grind);by_cases c:xr d p<=xr d u
  ·exact⟨p,by simp,c⟩
  ·refine⟨q,by simp,?_⟩
   have E:xr d (mn u p)<0:=by unfold xr mn at *;grind
   have id:((mn u p).1*(mn u p).1+(mn u p).2*(mn u p).2)*xr d (mn q u)=((mn u p).1*(mn q u).1+(mn u p).2*(mn q u).2)*xr d (mn u p)+((mn u p).1*d.1+(mn u p).2*d.2)*xr (mn u p) (mn q u):=by unfold xr;grind
   rw[t] at id;have F:xr d (mn q u)=xr d q-xr d u:=by unfold xr mn;grind
   by_cases y:xr d q<=xr d u
   ·exact y
   ·exfalso
    have G:=Zq B (show 0<xr d (mn q u) by grind);have H:=Zq g (show 0 < -(xr d (mn u p)) by grind);grind
 ·intro h;have k:∀d,xr d p<=xr d u\/xr d q<=xr d u:=λd=>by
   obtain⟨z,v,e⟩:=h d
   simp only[Zf,Zk,or_false] at v;rcases v with rfl|rfl
   ·exact .inl e
   ·exact .inr e
  have o:oR p q u=0:=by
   have a:=k (mn q p);have b:=k (ng (mn q p));have I:xr (mn q p) u-xr (mn q p) p=oR p q u:=by unfold xr mn oR;grind
   have J:xr (mn q p) q=xr (mn q p) p:=by unfold xr mn;grind
   have n:∀w,xr (ng (mn q p)) w = -(xr (mn q p) w):=λw=>by unfold xr ng;grind
   rw[n,n,n] at b;grind
  have j:∀w,xr ((mn q p).2,-(mn q p).1) w=(mn q p).1*w.1+(mn q p).2*w.2:=λw=>by unfold xr;grind
  have i:∀w,xr (-(mn q p).2,(mn q p).1) w = -((mn q p).1*w.1+(mn q p).2*w.2):=λw=>by unfold xr;grind
  have K:=hU f f (by unfold xr;grind);refine⟨o,λz=>?_,λz=>?_⟩
  ·have z:=ltR_up.mp z;have g:=hU f z (by unfold oR at o;unfold xr mn;grind);have a:=k ((mn q p).2,-(mn q p).1);rw[j,j,j] at a;unfold mn at *;dsimp only at *;grind
  ·have z:=ltR_up.mp z;have g:=hU f z (by unfold oR at o;unfold xr mn;grind);have a:=k (-(mn q p).2,(mn q p).1);rw[i,i,i] at a;unfold mn at *;dsimp only at *;grind
def yO{p v w:V}{a b K:Rat}(o:up p)(l:up v)(z:0<=a)(A:0<=b)(q:0<K)(f:K*w.1=a*p.1+b*v.1)(g:K*w.2=a*p.2+b*v.2):¬up (ng w):=λh=>by
 have d:=fG q h;have r:(K*(ng w).1,K*(ng w).2)=ng (K*w.1,K*w.2):=by unfold ng;exact Yt (by dsimp only;grind) (by dsimp only;grind)
 rw[r] at d;by_cases m:a=0
 ·by_cases i:b=0
  ·rw[m,i] at f g;have s:K*w.1=0:=by grind
   have t:K*w.2=0:=by grind
   rw[s,t] at d;unfold up ng at d;grind
  ·have:=fG (show 0<b by grind) l
   have e:(b*v.1,b*v.2)=(K*w.1,K*w.2):=by rw[f,g,m];exact Yt (by dsimp only;grind) (by dsimp only;grind)
   rw[e] at this;exact Eh this d
 ·have j:=fG (show 0<a by grind) o;by_cases i:b=0
  ·have e:(a*p.1,a*p.2)=(K*w.1,K*w.2):=by rw[f,g,i];exact Yt (by dsimp only;grind) (by dsimp only;grind)
   rw[e] at j;exact Eh j d
  ·have u:=fG (show 0<b by grind) l;have n:=lQ j u;have e:pl (a*p.1,a*p.2) (b*v.1,b*v.2)=(K*w.1,K*w.2):=by rw[f,g];rfl
   rw[e] at n;exact Eh n d
def yP{L:List V}(d:IsShp L){i:Nat}(o:(i+1)%L.length≠0):¬(CZ (CD L (i+1)) (CD L i)/\CZ (CD L (i+1)) (CD L (i+2))):=by
 rintro⟨e,f⟩
 have g:=d.three;have e:=ltR_up.mp e;have f:=ltR_up.mp f;have j:=By (l:=L) vB 0;have gi:=By (l:=L) vB (i+1);rw[Q8] at j;have h:CZ (CD L 0) (CD L (i+1)):=d.first ((i+1)%L.length-1) _ _ j (by rw[show(i+1)%L.length-1+1=(i+1)%L.length by omega];exact gi);have h:=ltR_up.mp h;have tp:=ES d i;have n:=side d i (CD L 0) (Bs vB 0);have m:=side' d (i+1) (CD L 0) (Bs vB 0);rw[show i+1+1=i+2 from rfl] at m;generalize CD L (i+1)=b at *;generalize CD L i=p at *;generalize CD L (i+2)=q at *;generalize CD L 0=z at *;refine yO (p:=mn p b) (v:=mn q b) (w:=mn z b) (K:=xr (mn b p) (mn q b)) (a:=xr (mn q b) (mn z b)) (b:=xr (mn b p) (mn z b)) e f m n tp (by unfold xr mn;grind) (by unfold xr mn;grind) ?_;have:ng (mn z b)=mn b z:=by unfold ng mn;exact Yt (by dsimp only;grind) (by dsimp only;grind)
 rw[this];exact h
open Sf
open Mg Fi PySem
section
variable{Γ:Nat->∅}
abbrev eL:List (Nat×(∅)):=[(114,cQ),(115,cH),(45,bC)]
def hV:∅:=run (tab eL) gC 3
def ok_law_is_region(e:Γ 114=cQ)(f:Γ 115=cH)(i:Γ 45=bC):∀d w,d.length=1->hV d=some w->run Γ gC 3 d=some w:=λd w _ h=>bq eL (by
 intro p g;simp only[eL,Zf,Zk,or_false] at g;rcases g with rfl|rfl|rfl<;>assumption) vA d w h
abbrev eM:Ss:=#v[.iff (.or (.not (.call 114 #v[.ix (.var 0) (.var 2)])) (.and (.cmp .gt (.var 2) (.int 0)) (.not (.call 115 #v[.ix (.var 0) (.int 0),.ix (.var 0) (.var 2)])))) #v[.ret (.bl false)] .nil,.iff (.cmp .gt (.bi .len #v[.var 0]) (.int 2)) #v[.iff (.cmp .le (.call 45 #v[.ix (.var 0) (.bin .sub (.var 2) (.int 2)),.ix (.var 0) (.bin .sub (.var 2) (.int 1)),.ix (.var 0) (.var 2)]) (.int 0)) #v[.ret (.bl false)] .nil,.iff (.and (.call 115 #v[.ix (.var 0) (.bin .sub (.var 2) (.int 1)),.ix (.var 0) (.bin .sub (.var 2) (.int 2))]) (.call 115 #v[.ix (.var 0) (.bin .sub (.var 2) (.int 1)),.ix (.var 0) (.var 2)])) #v[.asg 1 (.bin .add (.var 1) (.int 1))] .nil] .nil]
def yQ{φ ψ:∅}(e:Γ 114=φ)(f:Γ 115=ψ){L:List D}{F A X:D}{k n:Int}{g:Bool}(h:(L.length:Int)=n)(n2:decide (2<n)=false)(i:L2.atI L 0=some A)(j:L2.atI L k=some X)(s:φ [X]=some (.val (.bl true)))(l:decide (0<k)=g)(d:g=true->ψ [A,X]=some (.val (.bl true))):
  exs Γ eM [~~~.lst L,~~~F,~~~.int k]=some (.nx [~~~.lst L,~~~F,~~~.int k]):=by
 cases g
 ·clear d;walk_at "evh"
 ·have d:=d rfl;walk_at "evh"
def yR{φ ψ χ:∅}(i:Γ 114=φ)(j:Γ 115=ψ)(m:Γ 45=χ){L:List D}{A X Y Z:D}{k n f l:Int}{g d e:Bool}(o:(L.length:Int)=n)(n2:decide (2<n)=true)(p:L2.atI L 0=some A)(q:L2.atI L k=some X)(r:L2.atI L (k-1)=some Y)(u:L2.atI L (k-2)=some Z)(s:φ [X]=some (.val (.bl true)))(v:decide (0<k)=g)(h:g=true->ψ [A,X]=some (.val (.bl true)))
 (t:χ [Z,Y,X]=some (.val (.int l)))(w:decide (l<=0)=false)(z:ψ [Y,Z]=some (.val (.bl d)))(B:ψ [Y,X]=some (.val (.bl e))):
  exs Γ eM [~~~.lst L,~~~.int f,~~~.int k]=some (.nx [~~~.lst L,~~~(.int (if (d && e)=true then f+1 else f)),~~~.int k]):=by
 cases g
 ·clear h;cases d<;>cases e<;>walk_at "evh"
 ·have h:=h rfl;cases d<;>cases e<;>walk_at "evh"
def qF{L:List D}{n f:Int}{c2:Option B}(h:(L.length:Int)=n)(i : -4611686018427387904<=n/\n<4611686018427387904)(e:forN (Bo (.name 2)) (exs Γ eM) (Bv 0 n.toNat) [~~~.lst L,~~~.int 0,none]=some (.nx [~~~.lst L,~~~.int f,c2]))(d:decide (n<3)=true\/(decide (n<3)=false/\f=1)):run Γ gC 3 [.lst L]=some (.val (.bl true)):=by
 have g:gC=.cons (.iff (.not (.isi (.var 0) .list)) #v[.ret (.bl false)] .nil) #v[.asg 1 (.int 0),.frr (.name 2) (.range1 (.bi .len #v[.var 0])) eM,.ret (.or (.cmp .lt (.bi .len #v[.var 0]) (.int 3)) (.cmp .eq (.var 1) (.int 1)))]:=rfl;rw[g];generalize eM=j at *;clear g;rcases d with d|⟨d,rfl⟩
 ·walk_at "evh"
 ·walk_at "evh"
def yS{L:List V}(h:Told L){k:Nat}{p q:V}(e:L[0]? = some p)(d:L[k+1]? = some q):CZ p q:=by
 rcases h with rfl|⟨x,rfl⟩|⟨x,y,rfl,lt⟩|s
 ·simp at e
 ·simp at d
 ·match k,d with
  |0,d=>cases e;cases d;exact lt
  |k+1,d=>simp at d
 ·exact s.first k p q e d
def yT{L:List V}(h:Told L)(d:2<L.length):IsShp L:=by
 rcases h with rfl|⟨x,rfl⟩|⟨x,y,rfl,lt⟩|s
 ·simp at d
 ·simp at d
 ·simp at d
 ·exact s
def fN{L:List V}{i:Int}{j:Nat}(d:0<L.length)(h:i=((j%L.length:Nat):Int)\/i=((j%L.length:Nat):Int)-L.length):L2.atI (L.map CC) i=some (CC (CD L j)):=by
 rw[mj];have e:CD L j=CD L (j%L.length):=by unfold CD;rw[Jk]
 rw[e];exact dq (f:=λi=>CC (CD L i)) (Wi _ d) h
def yU{L:List V}(h:Told L)(hl:L.length<=1000)(w:DY 310 L):hV [.lst (L.map CC)]=some (.val (.bl true)):=by
 have spots:∀j,cQ [CC (CD L j)]=some (.val (.bl true)):=λj=>xN
 have G:∀j,j<L.length->decide ((0:Int)<(j:Int))=true->cH [CC (CD L 0),CC (CD L j)]=some (.val (.bl true)):=λj o z=>by
  have z:=of_decide_eq_true z;have d:0<L.length:=by omega
  obtain⟨c,e,O⟩:=g0 (w _ (Bs d 0)) (w _ (Bs d j)) vA vA
  have r:=By (l:=L) d 0;have m:=By (l:=L) d j;rw[Q8] at r;rw[Zh o] at m;have:=O.mpr (yS h (k:=j-1) r (by rw[show j-1+1=j by omega];exact m))
  rw[this] at e;exact e
 have g:((L.map CC).length:Int)=(L.length:Int):=by rw[Zc]
 have H : -4611686018427387904<=(L.length:Int)/\(L.length:Int)<4611686018427387904:=⟨by omega,by omega⟩;by_cases A:2<L.length
 ·have v:=yT h A;have d:0<L.length:=by omega
  obtain⟨B,e,n,rfl⟩:=fy (bt:=Bo (.name 2)) (fb:=exs (tab eL) eM) (I:=λj t=>∃n,t=[~~~.lst (L.map CC),~~~(.int (if 2<=j then 1 else 0)),n]) L.length [~~~.lst (L.map CC),~~~.int 0,none] ⟨none,rfl⟩ λj t o C=>by
   obtain⟨n,rfl⟩:=C
   have D:L2.atI (L.map CC) 0=some (CC (CD L 0)):=fN d (.inl (by rw[Q8];rfl));have E:L2.atI (L.map CC) (j:Int)=some (CC (CD L (j+L.length))):=fN d (.inl (by rw[Yo,Zh o]));have P:L2.atI (L.map CC) ((j:Int)-1)=some (CC (CD L (j+L.length-1))):=fN d (by
    by_cases z:j=0
    ·right;rw[z,Zh vB];omega
    ·left;rw[show j+L.length-1=j-1+L.length by omega,Yo,Zh vB];omega)
   have Q:L2.atI (L.map CC) ((j:Int)-2)=some (CC (CD L (j+L.length-2))):=fN d (by
    by_cases z:j<2
    ·right;rw[Zh vB];omega
    ·left;rw[show j+L.length-2=j-2+L.length by omega,Yo,Zh vB];omega)
   have u:=G j o;rw[show CD L j=CD L (j+L.length) from(gO _).symm] at u;have p:∀i,Sz 310 (CD L i).1/\Sz 310 (CD L i).2:=λi=>w _ (Bs d i)
   obtain⟨s,R,_,S,_⟩:=mv (p (j+L.length-2)) (p (j+L.length-1)) (p (j+L.length)) vA
   have tp:0<oR (CD L (j+L.length-2)) (CD L (j+L.length-1)) (CD L (j+L.length)):=by
    have:=ES v (j+L.length-2)
    rw[show j+L.length-2+1=j+L.length-1 by omega,show j+L.length-2+2=j+L.length by omega] at this;unfold xr mn at this;unfold oR;grind
   obtain⟨F,T,J⟩:=g0 (p (j+L.length-1)) (p (j+L.length-2)) vA vA
   obtain⟨q,U,K⟩:=g0 (p (j+L.length-1)) (p (j+L.length)) vA vA
   have W:=yR (Γ:=tab eL) (φ:=cQ) (ψ:=cH) (χ:=bC) rfl rfl rfl (f:=if 2<=j then 1 else 0) g (decide_eq_true vB) D E P Q (spots _) rfl u R (decide_eq_false λz=>by have:=S.mp z;grind) T U;refine⟨_,_,rfl,W,~~~.int (j:Int),?_⟩
   have key:(if (F && q)=true then(if 2<=j then(1:Int) else 0)+1 else(if 2<=j then 1 else 0))=if 2<=j+1 then 1 else 0:=by
    by_cases X:j=1
    ·subst X;have M:CD L (1+L.length-1)=CD L 0:=by rw[show 1+L.length-1=0+L.length by omega,gO]
     have r:=By (l:=L) d 0;rw[Q8] at r;have Y:F=true:=J.mpr (by
      rw[M,show 1+L.length-2=L.length-1 by omega];have m:=By (l:=L) d (L.length-1);rw[Zh vB] at m;exact v.first (L.length-2) _ _ r (by rw[show L.length-2+1=L.length-1 by omega];exact m))
     have Z:q=true:=K.mpr (by
      rw[M,gO];have m:=By (l:=L) d 1;rw[Zh vB] at m;exact v.first 0 _ _ r m)
     rw[Y,Z];rfl
    ·have N:=yP v (i:=j+L.length-2) (by
      rw[show j+L.length-2+1=j+L.length-1 by omega];by_cases z:j=0
      ·rw[z,Zh vB];omega
      ·rw[show j+L.length-1=j-1+L.length by omega,Yo,Zh vB];omega)
     rw[show j+L.length-2+1=j+L.length-1 by omega,show j+L.length-2+2=j+L.length by omega] at N;have nb:¬(F && q)=true:=λz=>by
      rw[Zl] at z;exact N ⟨J.mp z.1,K.mp z.2⟩
     rw[if_neg nb];by_cases z:2<=j
     ·rw[if_pos z,if_pos vB]
     ·rw[if_neg z,if_neg vB]
   rw[key]
  refine qF g H (f:=if 2<=L.length then 1 else 0) (c2:=n) (by rw[Zz];exact e) (.inr ⟨decide_eq_false vB,if_pos vB⟩)
 ·obtain⟨B,e,n,rfl⟩:=fy (bt:=Bo (.name 2)) (fb:=exs (tab eL) eM) (I:=λj t=>∃n,t=[~~~.lst (L.map CC),~~~.int 0,n]) L.length [~~~.lst (L.map CC),~~~.int 0,none] ⟨none,rfl⟩ λj t o C=>by
   obtain⟨n,rfl⟩:=C
   have d:0<L.length:=by omega
   have D:L2.atI (L.map CC) 0=some (CC (CD L 0)):=fN d (.inl (by rw[Q8];rfl));have E:L2.atI (L.map CC) (j:Int)=some (CC (CD L j)):=fN d (.inl (by rw[Zh o]));exact⟨_,_,rfl,yQ (Γ:=tab eL) (φ:=cQ) (ψ:=cH) rfl rfl g (decide_eq_false vB) D E (spots _) rfl (G j o),_,rfl⟩
  exact qF g H (by rw[Zz];exact e) (.inl (decide_eq_true vB))
abbrev eN:List (Nat×(∅)):=[(45,bC),(115,cH),(112,bZ)]
def eO:∅:=run (tab eN) Bq 2
def ok_law_in_region(i:Γ 45=bC)(e:Γ 115=cH)(f:Γ 112=bZ):∀d w,d.length=2->eO d=some w->run Γ Bq 2 d=some w:=λd w _ h=>bq eN (by
 intro p g;simp only[eN,Zf,Zk,or_false] at g;rcases g with rfl|rfl|rfl<;>assumption) vA d w h
def qG{L:List D}{u:D}{n:Int}{b:Bool}(d:(L.length:Int)=n)(h:decide (n<2)=true)(c:CI .isin u (.lst L)=some b):run Γ Bq 2 [.lst L,u]=some (.val (.bl b)):=by
 unfold Bq;walk_at "evh"
def yV{φ ψ:∅}(h:Γ 45=φ)(f:Γ 115=ψ){A d u:D}{s:Int}{z e g:Bool}(t:φ [A,d,u]=some (.val (.int s)))(i:decide (s=0)=z)(j:ψ [u,A]=some (.val (.bl e)))(l:ψ [d,u]=some (.val (.bl g))):run Γ Bq 2 [.lst [A,d],u]=some (.val (.bl (z && (!e && !g)))):=by
 unfold Bq;cases z
 ·walk_at "evh"
 ·cases e<;>walk_at "evh"
def yW{φ:∅}(d:Γ 112=φ){L:List D}{u:D}{n:Int}{b:Bool}(e:(L.length:Int)=n)(h:decide (n<2)=false)(f:decide (n=2)=false)(c:φ [.lst L,u]=some (.val (.bl b))):run Γ Bq 2 [.lst L,u]=some (.val (.bl b)):=by
 unfold Bq;walk_at "evh"
def qH(q:V)(l:List V):CI .isin (CC q) (.lst (l.map CC))=some (decide (q∈l)):=by
 have h:=qj q l;rw[kW] at h;rw[cm_in];split at h
 ·next c=>
  rw[if_pos c];have:=Zs h
  congr 1
  by_cases m:q∈l
  ·rw[decide_eq_true m];rw[decide_eq_false (λz=>z m)] at this;exact Bool.not_eq_false' .. ▸ this
  ·rw[decide_eq_false m];rw[decide_eq_true m] at this;exact Bool.not_eq_true' .. ▸ this
 ·cases h
def yX{l r L:List V}(T:Tel (DZ l r) L)(j:L.length<=1000)(f:DY 310 L){u:V}(e:Sz 800 u.1/\Sz 800 u.2):∃b:Bool,eO [.lst (L.map CC),CC u]=some (.val (.bl b))/\(b=true↔DZ l r u):=by
 have d:((L.map CC).length:Int)=(L.length:Int):=by rw[Zc]
 unfold eO;rcases T.told with rfl|⟨p,rfl⟩|⟨p,q,rfl,lt⟩|s
 ·refine⟨_,qG (Γ:=tab eN) d (decide_eq_true vA) (qH u []),?_⟩
  rw[decide_eq_true_eq];exact⟨λz=>(by cases z),λz=>absurd rfl (T.ne u z)⟩
 ·refine⟨_,qG (Γ:=tab eN) d (decide_eq_true (show((1:Nat):Int)<2 by decide)) (qH u [p]),?_⟩
  rw[decide_eq_true_eq,yM T,Zx]
 ·have h:=f p vC;have i:=f q vC;obtain⟨s,m,_,_,n⟩:=mv h i e vA
  obtain⟨o,t,v⟩:=g0 e h vA vA
  obtain⟨w,A,B⟩:=g0 i e vA vA
  refine⟨_,yV (Γ:=tab eN) (φ:=bC) (ψ:=cH) rfl rfl m rfl t A,?_⟩
  rw[mz T,<-FQ lt,<-n,<-v,<-B];cases o<;>cases w<;>simp
 ·have g:=s.three;obtain⟨b,C,D⟩:=qx (l:=L) (c:=u) vB j f e vA
  refine⟨b,yW (Γ:=tab eN) (φ:=bZ) rfl d (decide_eq_false vB) (decide_eq_false vB) C,?_⟩
  rw[D,mw s,yN T s]
end
open Sf
open Mg Fi PySem
section
variable{Γ:Nat->∅}
abbrev hY:Ss:=#v[.iff (.not (.call 121 #v[.var 2,.var 3,.var 8])) #v[.ret (.bl false)] .nil]
abbrev h9:Ss:=#v[.asg 8 (.call 72 #v[.var 2,.var 3,.bin .mod (.var 9) (.bin .pow (.int 10) (.int 18))]),.iff (.cmp .ne (.call 121 #v[.var 2,.var 3,.var 8]) (.call 117 #v[.var 6,.var 8])) #v[.ret (.bl false)] .nil]
abbrev j5:Ss:=#v[.asg 5 (.lst #v[.lcp (.var 2),.lcp (.var 3)]),.asg 6 (.call 101 #v[.ix (.var 5) (.int 0),.ix (.var 5) (.int 1)]),.iff (.or (.not (.call 116 #v[.var 6])) (.cmp .ne (.var 5) (.lst #v[.var 2,.var 3]))) #v[.ret (.bl false)] .nil,.asg 7 (.lcp (.var 6)),.iff (.cmp .ne (.var 6) (.lst .nil)) #v[.app 7 (.call 54 #v[.var 6,.int 0])] .nil,.frr (.name 8) (.seqV 7) hY,.frr (.name 9) (.seq (.bin .add (.sl (.var 0) .non (.som (.int 5))) (.lst #v[.ix (.var 1) (.int 17)]))) h9,.ret (.bl true)]
def yY{φ:∅}(f:Γ 121=φ){g h d e i j l u:D}{m n:Option B}(q:φ [d,e,u]=some (.val (.bl true))):exs Γ hY [~~~g,~~~h,~~~d,~~~e,m,~~~i,~~~j,~~~l,~~~u,n]=some (.nx [~~~g,~~~h,~~~d,~~~e,m,~~~i,~~~j,~~~l,~~~u,n]):=by
 walk_at "evh"
def yZ{φ ψ χ:∅}(g:Γ 121=φ)(o:Γ 72=ψ)(h:Γ 117=χ){i j d e l f m u:D}{n s:Option B}{c:Int}{b:Bool}(p:ψ [d,e,.int (c%1000000000000000000)]=some (.val u))(t:lf u=true)(q:φ [d,e,u]=some (.val (.bl b)))(r:χ [f,u]=some (.val (.bl b))):exs Γ h9 [~~~i,~~~j,~~~d,~~~e,n,~~~l,~~~f,~~~m,s,~~~.int c]=some (.nx [~~~i,~~~j,~~~d,~~~e,n,~~~l,~~~f,~~~m,~~~u,~~~.int c]):=by
 have v:c.fmod 1000000000000000000=c%1000000000000000000:=bP vA;cases b
 ·walk_at "evh"
 ·walk_at "evh"
def y0{l m n:∅}(t:Γ 101=l)(u:Γ 116=m)(z:Γ 54=n){e j L O f E o:List D}{h:Int}{s i v A C:Option B}{g:Bool}(w:s.map (λb=>B.sh b.d)=i)(r:i.map (λb=>B.sh b.d)=i)
 (p:l [.lst L,.lst O]=some (.new f))(H:lfL f=true)(I:lfL L=true)(J:lfL O=true)(K:m [.lst f]=some (.val (.bl true)))(N:CI .ne (.lst [.lst L,.lst O]) (.lst [.lst L,.lst O])=some false)(P:CI .ne (.lst f) (.lst [])=some g)(F:(g=false/\E=f)\/(g=true/\∃M,n [.lst f,.int 0]=some (.val M)/\lf M=true/\(f.length<PySem.sizeLine)=True/\E=f++[M]))
 (Q:forN (Bo (.name 8)) (exs Γ hY) E [~~~.lst e,~~~.lst j,~~~.lst L,~~~.lst O,i,~~~.lst [.lst L,.lst O],~~~.lst f,~~~.lst E,none,none]=some (.nx [~~~.lst e,~~~.lst j,~~~.lst L,~~~.lst O,i,~~~.lst [.lst L,.lst O],~~~.lst f,~~~.lst E,v,none]))
 (ct:cutD e none (some 5)=o)(G:L2.atI j 17=some (.int h))(R:Df .add (.lst o) (.lst [.int h])=some (.new (o++[.int h])))(S:lfL (o++[.int h])=true)
 (T:forN (Bo (.name 9)) (exs Γ h9) (o++[.int h]) [~~~.lst e,~~~.lst j,~~~.lst L,~~~.lst O,i,~~~.lst [.lst L,.lst O],~~~.lst f,~~~.lst E,v,none]=some (.nx [~~~.lst e,~~~.lst j,~~~.lst L,~~~.lst O,i,~~~.lst [.lst L,.lst O],~~~.lst f,~~~.lst E,A,C])):
  exs Γ j5 [~~~.lst e,some (.ow j),some (.ow L),some (.ow O),s,none,none,none,none,none]=some (.rt (.val (.bl true))):=by
 have U:frz [~~~.lst e,some (.ow j),some (.ow L),some (.ow O),s,none,none,none,none,none]=[~~~.lst e,~~~.lst j,~~~.lst L,~~~.lst O,i,none,none,none,none,none]:=by rw[<-w];rfl
 have V:frz [~~~.lst e,~~~.lst j,~~~.lst L,~~~.lst O,i,some (.ow [.lst L,.lst O]),some (.ow f),some (.ow E),none,none]=[~~~.lst e,~~~.lst j,~~~.lst L,~~~.lst O,i,~~~.lst [.lst L,.lst O],~~~.lst f,~~~.lst E,none,none]:=by
  show [_,_,_,_,i.map (λb=>B.sh b.d),_,_,_,_,_]=_;rw[r];rfl
 clear w r;unfold j5;generalize hY=X at *;generalize h9=Y at *;rcases F with⟨rfl,rfl⟩|⟨rfl,M,q,Z,sl,rfl⟩
 ·walk_at "evh"
 ·walk_at "evh"
end
open Sf
open Mg Fi PySem
section
variable{Γ:Nat->∅}
abbrev j6(d:Ss):Ss:=(.cons (.asg 1 (.call 102 #v[.var 0,.int 18])) (.cons (.asg 2 (.call 47 #v[.var 1])) (.cons (.asg 3 (.call 47 #v[.sl (.var 1) (.som (.int 8)) .non])) (.cons (.iff (.cmp .eq (.bin .mod (.ix (.var 1) (.int 16)) (.int 3)) (.int 1)) #v[.asg 3 (.call 118 #v[.var 2,.bin .fdiv (.ix (.var 1) (.int 16)) (.int 3)])] .nil) (.cons (.iff (.and (.cmp .eq (.bin .mod (.ix (.var 1) (.int 16)) (.int 3)) (.int 2)) (.cmp .eq (.bi .len #v[.var 2]) (.int 4))) #v[.asg 4 (.lst #v[.call 54 #v[.lst #v[.ix (.var 2) (.int 0),.ix (.var 2) (.int 1)],.int 0],.call 54 #v[.lst #v[.ix (.var 2) (.int 3),.ix (.var 2) (.int 2)],.int 0]]),.asg 3 (.lst #v[.ix (.var 2) (.int 0),.ix (.var 4) (.int 0),.ix (.var 4) (.int 1),.ix (.var 2) (.int 3)])] .nil) d)))))
def y3:d9=j6 j5:=rfl
section
variable{f102 f47 f118 f54:∅}(h102:Γ 102=f102)(h47:Γ 47=f47)(h118:Γ 118=f118)(h54:Γ 54=f54){NS:D}{HS H8 L O:List D}{a16 n:Int}{W:W}(q1:f102 [NS,.int 18]=some (.new HS))(lH:lfL HS=true)(q2:f47 [.lst HS]=some (.new L))(lL:lfL L=true)(c8:cutD HS (some 8) none=H8)(q3:f47 [.lst H8]=some (.new O))(lO:lfL O=true)(i16:L2.atI HS 16=some (.int a16))(hn:(L.length:Int)=n)
include h102 h47 q1 lH q2 lL c8 q3 lO i16 hn
theorem JQ{f:Ss}(g:decide (a16%3=1)=false){b:Bool}(h:decide (a16%3=2)=b)(d:b=true->decide (n=4)=false)(e:exs Γ f [~~~NS,some (.ow HS),some (.ow L),some (.ow O),none,none,none,none,none,none]=some (.rt W)):run Γ (j6 f) 10 [NS]=some W:=by
 have i:a16.fmod 3=a16%3:=bP vA;cases b
 ·clear d;walk_at "evh"
 ·have d:=d rfl;walk_at "evh"
include h118 in
theorem JP{d:Ss}{R:List D}(f:decide (a16%3=1)=true)(g:decide (a16%3=2)=false)(h:f118 [.lst L,.int (a16/3)]=some (.new R))(i:lfL R=true)(e:exs Γ d [~~~NS,some (.ow HS),some (.ow L),some (.ow R),none,none,none,none,none,none]=some (.rt W)):run Γ (j6 d) 10 [NS]=some W:=by
 have j:a16.fmod 3=a16%3:=bP vA;have l:a16.fdiv 3=a16/3:=dY vA;have m:br 3=true:=dZ vA vA;walk_at "evh"
include h54 in
theorem JO{d:Ss}{A0 A1 A2 A3 M N:D}(f:decide (a16%3=1)=false)(g:decide (a16%3=2)=true)(h:decide (n=4)=true)(i:L2.atI L 0=some A0)(j:L2.atI L 1=some A1)(l:L2.atI L 2=some A2)(g3:L2.atI L 3=some A3)(m:lf A0=true)(l1:lf A1=true)(l2:lf A2=true)(o:lf A3=true)(p:f54 [.lst [A0,A1],.int 0]=some (.val M))(q:lf M=true)(r:f54 [.lst [A3,A2],.int 0]=some (.val N))(s:lf N=true)(e:exs Γ d [~~~NS,some (.ow HS),some (.ow L),some (.ow [A0,M,N,A3]),some (.ow [M,N]),none,none,none,none,none]=some (.rt W)):run Γ (j6 d) 10 [NS]=some W:=by
 have t:a16.fmod 3=a16%3:=bP vA;walk_at "evh"
end
end
open Sf
open Mg Fi PySem
section
variable{Γ:Nat->∅}
def y4{l:List D}{a:Nat}(h:l.length<=a):cutD l none (some (a:Int))=l:=by
 unfold cutD;rw[HT.sIx_none,HT.sIx_nat,Vj,Vy,Nat.min_eq_right h,Jl]
def j7(q:V):lf (CC q)=true:=rfl
def mB(C:Γ 101=eH)(F:Γ 116=hV)(Z:Γ 54=dP)(v:Γ 121=cx)(a0:Γ 72=fM)(G:Γ 117=eO){l r:List V}(w:Sh5 l)(a1:l.length<=15)(hr:IsShp r)(a2:r.length<=15)(R:SyL 70 10 r){ns hs:List Int}(hl:18<=hs.length){x4 A:Option B}(hy:x4.map (λb=>B.sh b.d)=A)(a3:A.map (λb=>B.sh b.d)=A):
  exs Γ j5 [~~~.lst (ns.map .int),some (.ow (hs.map .int)),some (.ow (l.map CC)),some (.ow (r.map CC)),x4,none,none,none,none,none]=some (.rt (.val (.bl true))):=by
 have l3:=w.shp.three;have r3:=hr.three;have zl:DY 62 l:=w.sy.sz vA vA;have T:TwoS l r:=TwoS.mk' w.shp hr (w.sy.sz vA vA) (λi=>JW vB w.sy i) (λq S=>⟨(R q S).1.mono vA vA,(R q S).2.mono vA vA⟩) vB vB;have pi:=yd T.toBd2;have t:=FK T.toBd2;obtain⟨U,len⟩:=IV T
 generalize Dr l r=L at *;have zL:DY 310 L:=U.sz vA vA;have rg:=yU t.told vB zL;have H:∀{u:V}{n:Nat},Sy n (n-290) u.1/\Sy n (n-290) u.2->n<=4100->290<=n->∃b:Bool,cx [.lst (l.map CC),.lst (r.map CC),CC u]=some (.val (.bl b))/\(b=true↔DZ l r u):=λhu h1 h0=>yy w.shp vB vB zl R hu h1 h0
 have J:∀{u:V}{n:Nat},Sy n (n-290) u.1/\Sy n (n-290) u.2->n<=4100->290<=n->DZ l r u->cx [.lst (l.map CC),.lst (r.map CC),CC u]=some (.val (.bl true)):=λhu h1 h0 hR=>by
  obtain⟨b,e,i⟩:=H hu h1 h0
  rw[i.mpr hR] at e;exact e
 have yL:∀p∈L,cx [.lst (l.map CC),.lst (r.map CC),CC p]=some (.val (.bl true)):=λp f=>J (n:=600) ⟨(U p f).1.mono vA vA,(U p f).2.mono vA vA⟩ vA vA (t.mem p f).1
 obtain⟨g,E,hc,hE,ok⟩:∃(g:Bool) (E:List V),CI .ne (.lst (L.map CC)) (.lst [])=some g/\((g=false/\E.map CC=L.map CC)\/(g=true/\∃M,dP [.lst (L.map CC),.int 0]=some (.val M)/\lf M=true/\((L.map CC).length<PySem.sizeLine)=True/\E.map CC=L.map CC++[M]))/\∀p∈E,cx [.lst (l.map CC),.lst (r.map CC),CC p]=some (.val (.bl true)):=by
  by_cases e0:L=[]
  ·refine⟨false,L,?_,.inl ⟨rfl,rfl⟩,yL⟩
   have:=JJ (l:=L) (r:=[]) e0
   exact this
  ·have l1:1<=L.length:=by
    have:=V7.mpr e0
    omega
   obtain⟨m,em,M⟩:=hH (l:=L) (N:=0) l1 vB U vA
   have sl:((L.map CC).length<PySem.sizeLine)=True:=by
    have:(1000:Nat)<=PySem.sizeLine:=by decide
    exact eq_true (by rw[Zc];omega)
   refine⟨true,L++[m],?_,.inr ⟨rfl,CC m,em,j7 m,sl,by rw[Yl];rfl⟩,λp f=>?_⟩
   ·have c:=pO L [];rw[decide_eq_false e0] at c;have e2:eqO (.lst (L.map CC)) (.lst [])=some false:=c;show(eqO _ _).map not=_;rw[e2];rfl
   ·rcases Yw.mp f with f|f
    ·exact yL p f
    ·rw[Zx.mp f];refine J (n:=4035) ⟨M.sy.1.mono vA vA,M.sy.2.mono vA vA⟩ vA vA λq S j hj=>?_;have:=M.low (wy (hS l j)) (((hS l j).2.2:Rat)-xr (wy (hS l j)) q) λp f=>by
      have:=(t.mem p f).1 q S j hj
      rw[eD] at this;grind
     rw[eD];grind
 generalize hL:L.map CC=z at *;generalize a4:E.map CC=W at *;obtain⟨a6,e1,K,rfl⟩:=jt (bt:=Bo (.name 8)) (fb:=exs Γ hY) (I:=λO=>∃K,O=[~~~.lst (ns.map .int),~~~.lst (hs.map .int),~~~.lst (l.map CC),~~~.lst (r.map CC),A,~~~.lst [.lst (l.map CC),.lst (r.map CC)],~~~.lst z,~~~.lst W,K,none]) W (λd X O hI=>by
  obtain⟨K,rfl⟩:=hI
  rw[<-a4] at X;obtain⟨p,f,rfl⟩:=Zt.mp X
  exact⟨_,_,rfl,yY (φ:=cx) v (ok p f),_,rfl⟩) _ ⟨none,rfl⟩
 obtain⟨o,a5⟩:∃g,L2.atI (hs.map D.int) 17=some (.int g):=⟨_,ek (hs:=hs) (j:=17) vB⟩
 have ct:cutD (ns.map D.int) none (some 5)=(ns.take 5).map D.int:=by
  by_cases h:5<=ns.length
  ·rw[show(5:Int)=((5:Nat):Int) from rfl,lX (by rw[Zc];exact h),Ug]
  ·rw[Ke vB];exact y4 (a:=5) (by rw[Zc];omega)
 have s:(ns.take 5).map D.int++[D.int o]=(ns.take 5++[o]).map D.int:=by rw[Yl];rfl
 obtain⟨a7,e2,w8,w9,rfl⟩:=jt (bt:=Bo (.name 9)) (fb:=exs Γ h9) (I:=λO=>∃w8 w9,O=[~~~.lst (ns.map .int),~~~.lst (hs.map .int),~~~.lst (l.map CC),~~~.lst (r.map CC),A,~~~.lst [.lst (l.map CC),.lst (r.map CC)],~~~.lst z,~~~.lst W,w8,w9]) ((ns.take 5++[o]).map D.int) (λd X O hI=>by
  obtain⟨w8,w9,rfl⟩:=hI
  obtain⟨c,hc,rfl⟩:=Zt.mp X
  obtain⟨u,pu,Y⟩:=yG (l:=l) (r:=r) (N:=c%1000000000000000000) vB a1 vB a2 w.sy R
  obtain⟨b,fb,ib⟩:=H (u:=u) (n:=800) ⟨Y.1.mono vA vA,Y.2.mono vA vA⟩ vA vA
  obtain⟨b',P,Q⟩:=yX t vB zL (u:=u) ⟨Y.1.sz vA vA,Y.2.sz vA vA⟩
  have eb:b'=b:=by
   cases b<;>cases b'
   ·rfl
   ·exact absurd (ib.mpr (Q.mp rfl)) vA
   ·exact absurd (Q.mpr (ib.mp rfl)) vA
   ·rfl
  rw[hL,eb] at P;exact⟨_,_,rfl,yZ (φ:=cx) (ψ:=fM) (χ:=eO) v a0 G pu (j7 u) fb P,_,_,rfl⟩) [~~~.lst (ns.map .int),~~~.lst (hs.map .int),~~~.lst (l.map CC),~~~.lst (r.map CC),A,~~~.lst [.lst (l.map CC),.lst (r.map CC)],~~~.lst z,~~~.lst W,K,none] ⟨K,none,rfl⟩
 have dk:∀l:List V,dOkL 48 (l.map CC)=true:=λl=>by
  induction l with
  |nil=>rfl
  |cons a l ih=>show(dOk 48 (CC a) && dOkL 48 (l.map CC))=true;rw[ih];rfl
 have ne:CI .ne (.lst [.lst (l.map CC),.lst (r.map CC)]) (.lst [.lst (l.map CC),.lst (r.map CC)])=some false:=by
  have d1:dOkL 49 [.lst (l.map CC),.lst (r.map CC)]=true:=by
   show(dOkL 48 (l.map CC) && (dOkL 48 (r.map CC) && true))=true;rw[dk,dk];rfl
  have d2:eqL [D.lst (l.map CC),.lst (r.map CC)] [.lst (l.map CC),.lst (r.map CC)]=true:=CV 49 _ d1;rw[oF,d1,if_pos (show(true && true)=true from rfl),d2];rfl
 have ad:Df .add (.lst ((ns.take 5).map D.int)) (.lst [.int o])=some (.new ((ns.take 5).map D.int++[.int o])):=jL (by rw[Zc,Wb];simp;omega);exact y0 (Γ:=Γ) C F Z hy a3 pi (by rw[<-hL];exact bW _) (bW _) (bW _) rg ne hc hE e1 ct a5 ad (by rw[s];exact ei _) (by rw[s];exact e2)
def law31(d:Γ 102=gS)(B:Γ 47=gZ)(H:Γ 118=hJ)(v:Γ 54=dP)(e:Γ 101=eH)(f:Γ 116=hV)(i:Γ 121=cx)(C:Γ 72=fM)(o:Γ 117=eO)(O:List Int)(hn:O.length<=63):run Γ d9 10 [.lst (O.map .int)]=some (.val (.bl true)):=by
 obtain⟨E,hl,hb,P⟩:=wK O hn 18 vA vA
 rw[show((18:Nat):Int)=18 from rfl] at P;obtain⟨l,⟨s,t⟩,I⟩:=qu (hs:=E) vB
 obtain⟨r,⟨Sr,R⟩,S⟩:=qu (hs:=E.drop 8) (by rw[Yr];omega)
 have T:cutD (E.map D.int) (some 8) none=(E.drop 8).map D.int:=HJ (k:=8) vB;obtain⟨A,F⟩:∃g,L2.atI (E.map D.int) 16=some (.int g):=⟨_,ek (hs:=E) (j:=16) vB⟩
 have u:((l.map CC).length:Int)=(l.length:Int):=by rw[Zc]
 rw[y3];have U:∀{r:List V},SyL 62 3 r->SyL 70 10 r:=λh q Q=>⟨(h q Q).1.mono vA vA,(h q Q).2.mono vA vA⟩
 by_cases W:A%3=1
 ·obtain⟨z,hz,lz,sz,ez⟩:=yI s (A/3)
  exact JP (Γ:=Γ) d B H P (ei _) I (bW _) T S (bW _) F u (decide_eq_true W) (decide_eq_false vB) ez (bW _) (mB e f v i C o s t hz vB sz vB rfl rfl)
 ·by_cases X:A%3=2/\l.length=4
  ·match l,X.2,s,t,I,u with
   |[G,o1,o2,o3],_,s,t,I,u=>
    have J:=s.sy G vC;have Y:=s.sy o1 vC;have Z:=s.sy o2 vC;have K:=s.sy o3 vC;have zz:∀{p q:V},(Sy 62 3 p.1/\Sy 62 3 p.2)->(Sy 62 3 q.1/\Sy 62 3 q.2)->SyL 62 3 [p,q]:=λ{p q} hp Q x L=>by
     simp only[Zf,Zk,or_false] at L;rcases L with rfl|rfl
     ·exact hp
     ·exact Q
    obtain⟨m,em,M⟩:=hH (l:=[G,o1]) (N:=0) vC vC (zz J Y) vA
    obtain⟨n,en,N⟩:=hH (l:=[o3,o2]) (N:=0) vC vC (zz K Z) vA
    obtain⟨m1,m2⟩:=M.mid rfl G o1 rfl
    obtain⟨n1,n2⟩:=N.mid rfl o3 o2 rfl
    have sh:=yJ s.shp m1 m2 n1 n2;have sr:SyL 70 10 [G,m,n,o3]:=λx L=>by
     simp only[Zf,Zk,or_false] at L;rcases L with rfl|rfl|rfl|rfl
     ·exact⟨J.1.mono vA vA,J.2.mono vA vA⟩
     ·exact⟨j4 J.1 Y.1 m1,j4 J.2 Y.2 m2⟩
     ·exact⟨j4 K.1 Z.1 n1,j4 K.2 Z.2 n2⟩
     ·exact⟨K.1.mono vA vA,K.2.mono vA vA⟩
    have al:=mB (Γ:=Γ) e f v i C o s t (r:=[G,m,n,o3]) sh vC sr (ns:=O) (hs:=E) vB (x4:=some (.ow [CC m,CC n])) rfl rfl;exact JO (Γ:=Γ) d B v P (ei _) I (bW _) T S (bW _) F u (decide_eq_false W) (decide_eq_true X.1) (decide_eq_true rfl) (A0:=CC G) (A1:=CC o1) (A2:=CC o2) (A3:=CC o3) rfl rfl rfl rfl rfl rfl rfl rfl em (j7 m) en (j7 n) al
  ·exact JQ (Γ:=Γ) d B P (ei _) I (bW _) T S (bW _) F u (decide_eq_false W) (b:=decide (A%3=2)) rfl (λz=>decide_eq_false λw=>X ⟨of_decide_eq_true z,by omega⟩) (mB e f v i C o s t Sr.shp R (U Sr.sy) vB rfl rfl)
end
end DL
namespace LW
open DL
def Γ:Nat->List D->Option W
 |0=>B9
 |1=>dB
 |9=>cq
 |10=>bB
 |11=>bw
 |12=>B9
 |20=>cY
 |21=>bN
 |40=>ec
 |41=>cZ
 |42=>da
 |43=>ea
 |46=>eI
 |47=>gZ
 |50=>cO
 |59=>dg
 |74=>B8
 |81=>bR
 |92=>bI
 |93=>cF
 |95=>dJ
 |96=>dH
 |98=>dI
 |99=>cG
 |100=>gY
 |101=>eH
 |102=>gS
 |103=>bJ
 |105=>cR
 |108=>bx
 |110=>dm
 |113=>cw
 |118=>hJ
 |104=>fJ
 |54=>dP
 |45=>bC
 |116=>hV
 |112=>bZ
 |121=>cx
 |72=>fM
 |117=>eO
 |115=>cH
 |3=>gJ
 |14=>cA
 |114=>cQ
 |_=>λ_=>none
def y6:∀d:List Int,d.length ≤ 63->run Γ d9 10 [.lst (d.map D.int)]=some (.val (.bl true)):=by
 intro d e;apply DL.law31<;>first|rfl|exact e
end LW
namespace LW
open PySem L2 DL
def top(i:Nat):Stmt:=PySem.Challenge.pw_snugfit_k31_whole_pushes.main.body.getD i (.Pass ⟨0,0,0,0⟩)
def C0{x:Str}{f:Stmt}{l:Str}(h:∀(kV d i:Value) (j:Option Addr) (e ct:Value) (g:Value),bindArgs (PySem.W.fnOf x x (bT f) (Bc f) (Ba f) .none kV d i j e ct) ⟨[g],[]⟩=pure ([l].zip [g])):CK x f [l]:=λkV d i j e ct n m=>by
 cases n with
 |nil=>cases m
 |cons g o=>
  cases o with
  |nil=>exact h kV d i j e ct g
  |cons _ _=>cases m
def CM{x:Str}{f:Stmt}{n o:Str}(h:∀(kV d j:Value) (l:Option Addr) (e ct:Value) (g i:Value),bindArgs (PySem.W.fnOf x x (bT f) (Bc f) (Ba f) .none kV d j l e ct) ⟨[g,i],[]⟩=pure ([n,o].zip [g,i])):CK x f [n,o]:=λkV d j l e ct p m=>by
 cases p with
 |nil=>cases m
 |cons g q=>
  cases q with
  |nil=>cases m
  |cons i r=>
   cases r with
   |nil=>exact h kV d j l e ct g i
   |cons _ _=>cases m
def Dz{x:Str}{f:Stmt}{o p q:Str}(h:∀(kV d m:Value) (n:Option Addr) (e ct:Value) (g i j:Value),bindArgs (PySem.W.fnOf x x (bT f) (Bc f) (Ba f) .none kV d m n e ct) ⟨[g,i,j],[]⟩=pure ([o,p,q].zip [g,i,j])):CK x f [o,p,q]:=λkV d m n e ct r l=>by
 cases r with
 |nil=>cases l
 |cons g s=>
  cases s with
  |nil=>cases l
  |cons i t=>
   cases t with
   |nil=>cases l
   |cons j u=>
    cases u with
    |nil=>exact h kV d m n e ct g i j
    |cons _ _=>cases l
def y8:FnScope ["_law_script","_law_many","_law_k","_law_found","_law_cell","_law_at"] ["_law_script","_law_many"] (Ba (top 35)):=vD
def y9:CK "_law_numbers" (top 35) ["_law_script","_law_many"]:=CM λ_ _ _ _ _ _ _ _=>rfl
def za:FnScope ["_law_head","_law_lows","_law_k","_law_highs","_law_top"] ["_law_head"] (Ba (top 39)):=vD
def zb:CK "_law_bows" (top 39) ["_law_head"]:=C0 λ_ _ _ _ _ _ _=>rfl
def zc:FnScope ["_law_head","_law_u","_law_v","_law_both","_law_way","_law_far","_law_back"] ["_law_head"] (Ba (top 40)):=vD
def zd:CK "_law_ring" (top 40) ["_law_head"]:=C0 λ_ _ _ _ _ _ _=>rfl
def ze:FnScope ["_law_one","_law_other"] ["_law_one","_law_other"] (Ba (top 36)):=vD
def zf:CK "_law_divisor" (top 36) ["_law_one","_law_other"]:=CM λ_ _ _ _ _ _ _ _=>rfl
def zh:FnScope ["_law_top","_law_bottom","_law_most"] ["_law_top","_law_bottom"] (Ba (top 37)):=vD
def zi:CK "_law_fraction" (top 37) ["_law_top","_law_bottom"]:=CM λ_ _ _ _ _ _ _ _=>rfl
def zj:FnScope ["_law_head","_law_ring_here","_law_by","_law_off","_law_share","_law_at","_law_found","_law_x","_law_y","_law_right"] ["_law_head"] (Ba (top 41)):=vD
def zk:CK "_law_shape" (top 41) ["_law_head"]:=C0 λ_ _ _ _ _ _ _=>rfl
def zm:FnScope ["_law_one","_law_other"] ["_law_one","_law_other"] (Ba (top 42)):=vD
def zo:CK "_law_plus" (top 42) ["_law_one","_law_other"]:=CM λ_ _ _ _ _ _ _ _=>rfl
def zp:FnScope ["_law_one","_law_other"] ["_law_one","_law_other"] (Ba (top 43)):=vD
def zq:CK "_law_times" (top 43) ["_law_one","_law_other"]:=CM λ_ _ _ _ _ _ _ _=>rfl
def zt:FnScope ["_law_shape_here","_law_factor","_law_push_here","_law_found","_law_x","_law_y","_law_right"] ["_law_shape_here","_law_factor","_law_push_here"] (Ba (top 47)):=vD
def zu:CK "_law_moved" (top 47) ["_law_shape_here","_law_factor","_law_push_here"]:=Dz λ_ _ _ _ _ _ _ _ _=>rfl
def zw:FnScope ["_law_shape_here","_law_number","_law_at","_law_by","_law_rest","_law_push_here"] ["_law_shape_here","_law_number"] (Ba (top 53)):=vD
def zx:CK "_law_nearer" (top 53) ["_law_shape_here","_law_number"]:=CM λ_ _ _ _ _ _ _ _=>rfl
def zy:FnScope ["_law_number","_law_base","_law_place","_law_k"] ["_law_number","_law_base","_law_place"] (Ba (top 38)):=vD
def zA:CK "_law_digit" (top 38) ["_law_number","_law_base","_law_place"]:=Dz λ_ _ _ _ _ _ _ _ _=>rfl
def zB:FnScope ["_law_shape_here","_law_number","_law_weights","_law_found","_law_weight","_law_spot","_law_j"] ["_law_shape_here","_law_number"] (Ba (top 54)):=vD
def zC:CK "_law_mean" (top 54) ["_law_shape_here","_law_number"]:=CM λ_ _ _ _ _ _ _ _=>rfl
def zD:FnScope ["side","other"] ["side","other"] (Ba (top 15)):=vD
def zE:CK "cross" (top 15) ["side","other"]:=CM λ_ _ _ _ _ _ _ _=>rfl
def zF:FnScope ["trio","before","middle","after"] ["trio"] (Ba (top 23)):=vD
def zG:CK "weights_of" (top 23) ["trio"]:=C0 λ_ _ _ _ _ _ _=>rfl
def zH:FnScope ["trio","common","bound","top","bottom","weight","middle"] ["trio"] (Ba (top 24)):=vD
def zI:CK "set_closing" (top 24) ["trio"]:=C0 λ_ _ _ _ _ _ _=>rfl
def zJ:FnScope ["shape"] ["shape"] (Ba (top 13)):=vD
def zK:CK "steps" (top 13) ["shape"]:=C0 λ_ _ _ _ _ _ _=>rfl
def zM:FnScope ["one","other","great","small","rest"] ["one","other"] (Ba (top 4)):=vD
def zN:CK "divisor" (top 4) ["one","other"]:=CM λ_ _ _ _ _ _ _ _=>rfl
def zO:FnScope ["one","other","shared","top","rest"] ["one","other"] (Ba (top 6)):=vD
def zP:CK "plus" (top 6) ["one","other"]:=CM λ_ _ _ _ _ _ _ _=>rfl
def zQ:FnScope ["one","other"] ["one","other"] (Ba (top 7)):=vD
def zR:CK "minus" (top 7) ["one","other"]:=CM λ_ _ _ _ _ _ _ _=>rfl
def zS:FnScope ["top","bottom","shared"] ["top","bottom"] (Ba (top 5)):=vD
def zT:CK "ratio" (top 5) ["top","bottom"]:=CM λ_ _ _ _ _ _ _ _=>rfl
def zU:FnScope ["one","other"] ["one","other"] (Ba (top 8)):=vD
def zV:CK "times" (top 8) ["one","other"]:=CM λ_ _ _ _ _ _ _ _=>rfl
def zW:FnScope ["parts","common","part","tops","shared","top"] ["parts"] (Ba (top 16)):=vD
def zX:CK "lowest_whole" (top 16) ["parts"]:=C0 λ_ _ _ _ _ _ _=>rfl
def zY:FnScope ["start","end","a","b","c"] ["start","end"] (Ba (top 14)):=vD
def zZ:CK "side_between" (top 14) ["start","end"]:=CM λ_ _ _ _ _ _ _ _=>rfl
def z0:FnScope ["shape"] ["shape"] (Ba (top 12)):=vD
def z8:CK "sides_of" (top 12) ["shape"]:=C0 λ_ _ _ _ _ _ _=>rfl
def z9:FnScope ["a","b","spot"] ["a","b","spot"] (Ba (top 17)):=vD
def Aa:CK "level" (top 17) ["a","b","spot"]:=Dz λ_ _ _ _ _ _ _ _ _=>rfl
def Ab:FnScope ["one","other"] ["one","other"] (Ba (top 10)):=vD
def Ac:CK "below" (top 10) ["one","other"]:=CM λ_ _ _ _ _ _ _ _=>rfl
def Ad:FnScope ["shape","a","b","best","corner","found"] ["shape","a","b"] (Ba (top 18)):=vD
def Ae:CK "reach" (top 18) ["shape","a","b"]:=Dz λ_ _ _ _ _ _ _ _ _=>rfl
def Af:FnScope ["bounds","k"] ["bounds","k"] (Ba (top 22)):=vD
def Ag:CK "trio_at" (top 22) ["bounds","k"]:=CM λ_ _ _ _ _ _ _ _=>rfl
def Ah:FnScope ["one","other","bounds","place","side","least","k"] ["one","other"] (Ba (top 21)):=vD
def Ai:CK "bounds_of" (top 21) ["one","other"]:=CM λ_ _ _ _ _ _ _ _=>rfl
def Aj:FnScope ["bounds","k"] ["bounds","k"] (Ba (top 27)):=vD
def Ak:CK "drop" (top 27) ["bounds","k"]:=CM λ_ _ _ _ _ _ _ _=>rfl
def Al:FnScope ["bounds","first","k","closing"] ["bounds"] (Ba (top 25)):=vD
def Am:CK "earliest" (top 25) ["bounds"]:=C0 λ_ _ _ _ _ _ _=>rfl
def An:FnScope ["bounds","k"] ["bounds","k"] (Ba (top 26)):=vD
def Ao:CK "ends_all" (top 26) ["bounds","k"]:=CM λ_ _ _ _ _ _ _ _=>rfl
def Ap:FnScope ["bound","factor"] ["bound","factor"] (Ba (top 29)):=vD
def Aq:CK "edge_by" (top 29) ["bound","factor"]:=CM λ_ _ _ _ _ _ _ _=>rfl
def As:FnScope ["one","other"] ["one","other"] (Ba (top 9)):=vD
def Au:CK "over" (top 9) ["one","other"]:=CM λ_ _ _ _ _ _ _ _=>rfl
def Av:FnScope ["one","other","factor","first","second","bend","x","y"] ["one","other","factor"] (Ba (top 28)):=vD
def Aw:CK "meeting" (top 28) ["one","other","factor"]:=Dz λ_ _ _ _ _ _ _ _ _=>rfl
def Ax:FnScope ["bounds","factor"] ["bounds","factor"] (Ba (top 30)):=vD
def Ay:CK "meetings" (top 30) ["bounds","factor"]:=CM λ_ _ _ _ _ _ _ _=>rfl
def Az:FnScope ["one","other","bounds","k","spots"] ["one","other"] (Ba (top 32)):=vD
def AA:CK "pushes" (top 32) ["one","other"]:=CM λ_ _ _ _ _ _ _ _=>rfl
def AB:FnScope ["_law_found"] ["_law_found"] (Ba (top 34)):=vD
def AD:CK "_law_whole" (top 34) ["_law_found"]:=C0 λ_ _ _ _ _ _ _=>rfl
def AE:FnScope ["_law_found"] ["_law_found"] (Ba (top 48)):=vD
def AF:CK "_law_is_fraction" (top 48) ["_law_found"]:=C0 λ_ _ _ _ _ _ _=>rfl
def AG:FnScope ["_law_found"] ["_law_found"] (Ba (top 49)):=vD
def AH:CK "_law_is_spot" (top 49) ["_law_found"]:=C0 λ_ _ _ _ _ _ _=>rfl
def AI:FnScope ["_law_one","_law_other"] ["_law_one","_law_other"] (Ba (top 44)):=vD
def AJ:CK "_law_less" (top 44) ["_law_one","_law_other"]:=CM λ_ _ _ _ _ _ _ _=>rfl
def AK:FnScope ["_law_one","_law_other"] ["_law_one","_law_other"] (Ba (top 50)):=vD
def AL:CK "_law_ahead" (top 50) ["_law_one","_law_other"]:=CM λ_ _ _ _ _ _ _ _=>rfl
def AM:FnScope ["_law_one","_law_two","_law_three","_law_ahead_x","_law_ahead_y","_law_on_x","_law_on_y","_law_left","_law_right"] ["_law_one","_law_two","_law_three"] (Ba (top 45)):=vD
def AN:CK "_law_turn" (top 45) ["_law_one","_law_two","_law_three"]:=Dz λ_ _ _ _ _ _ _ _ _=>rfl
def AO:FnScope ["_law_found","_law_falls","_law_k"] ["_law_found"] (Ba (top 51)):=vD
def AQ:CK "_law_is_region" (top 51) ["_law_found"]:=C0 λ_ _ _ _ _ _ _=>rfl
def AR:FnScope ["_law_shape_here","_law_spot","_law_k"] ["_law_shape_here","_law_spot"] (Ba (top 46)):=vD
def AS:CK "_law_held" (top 46) ["_law_shape_here","_law_spot"]:=CM λ_ _ _ _ _ _ _ _=>rfl
def AU:FnScope ["_law_one","_law_other","_law_push_here","_law_spot"] ["_law_one","_law_other","_law_push_here"] (Ba (top 56)):=vD
def AV:CK "_law_fits" (top 56) ["_law_one","_law_other","_law_push_here"]:=Dz λ_ _ _ _ _ _ _ _ _=>rfl
def AW:FnScope ["_law_one","_law_other","_law_number","_law_first","_law_second","_law_right"] ["_law_one","_law_other","_law_number"] (Ba (top 55)):=vD
def AX:CK "_law_push" (top 55) ["_law_one","_law_other","_law_number"]:=Dz λ_ _ _ _ _ _ _ _ _=>rfl
def AY:FnScope ["_law_found","_law_spot"] ["_law_found","_law_spot"] (Ba (top 52)):=vD
def AZ:CK "_law_in_region" (top 52) ["_law_found","_law_spot"]:=CM λ_ _ _ _ _ _ _ _=>rfl
def A4:FnScope ["_law_script","_law_head","_law_one","_law_other","_law_half","_law_handed","_law_found","_law_ends","_law_push_here","_law_cell"] ["_law_script"] (Ba (top 57)):=vD
def A5:CK "law" (top 57) ["_law_script"]:=C0 λ_ _ _ _ _ _ _=>rfl
def A6:trSs 40 ⟨["_law_script","_law_many","_law_k","_law_found","_law_cell","_law_at"],Ba (top 35),[],[],false⟩ (Bc (top 35))=some jk:=by kernel_rfl
def A7:trSs 40 ⟨["_law_head","_law_lows","_law_k","_law_highs","_law_top"],Ba (top 39),[],[],false⟩ (Bc (top 39))=some jn:=by kernel_rfl
def A8:trSs 40 ⟨["_law_head","_law_u","_law_v","_law_both","_law_way","_law_far","_law_back"],Ba (top 40),[("_law_bows",105,1)],[],false⟩ (Bc (top 40))=some jl:=by kernel_rfl
def A9:trSs 40 ⟨["_law_one","_law_other"],Ba (top 36),[],[],false⟩ (Bc (top 36))=some lg:=by kernel_rfl
def Bp:trSs 40 ⟨["_law_top","_law_bottom","_law_most"],Ba (top 37),[("_law_divisor",12,2)],[],false⟩ (Bc (top 37))=some ll:=by kernel_rfl
def BA:trSs 40 ⟨["_law_head","_law_ring_here","_law_by","_law_off","_law_share","_law_at","_law_found","_law_x","_law_y","_law_right"],Ba (top 41),[("_law_ring",46,1),("_law_fraction",103,2)],[],false⟩ (Bc (top 41))=some jm:=by kernel_rfl
def BB:trSs 40 ⟨["_law_one","_law_other"],Ba (top 42),[("_law_fraction",103,2)],[],false⟩ (Bc (top 42))=some lr:=by kernel_rfl
def BC:trSs 40 ⟨["_law_one","_law_other"],Ba (top 43),[("_law_fraction",103,2)],[],false⟩ (Bc (top 43))=some Bx:=by kernel_rfl
def BD:trSs 40 ⟨["_law_shape_here","_law_factor","_law_push_here","_law_found","_law_x","_law_y","_law_right"],Ba (top 47),[("_law_plus",108,2),("_law_times",74,2)],[],false⟩ (Bc (top 47))=some oM:=by kernel_rfl
def BE:trSs 40 ⟨["_law_shape_here","_law_number","_law_at","_law_by","_law_rest","_law_push_here"],Ba (top 53),[("_law_plus",108,2),("_law_times",74,2),("_law_moved",113,3)],[],false⟩ (Bc (top 53))=some gD:=by kernel_rfl
def BF:trSs 40 ⟨["_law_number","_law_base","_law_place","_law_k"],Ba (top 38),[],[],false⟩ (Bc (top 38))=some gA:=by kernel_rfl
def BG:trSs 40 ⟨["_law_shape_here","_law_number","_law_weights","_law_found","_law_weight","_law_spot","_law_j"],Ba (top 54),[("_law_digit",104,3),("_law_plus",108,2),("_law_times",74,2)],[],false⟩ (Bc (top 54))=some gE:=by kernel_rfl
def BH:trSs 40 ⟨["side","other"],Ba (top 15),[],[],false⟩ (Bc (top 15))=some je:=by kernel_rfl
def BI:trSs 40 ⟨["trio","before","middle","after"],Ba (top 23),[("cross",81,2)],[],true⟩ (Bc (top 23))=some jg:=by kernel_rfl
def BJ:Ft (top 24) ⟨["trio","common","bound","top","bottom","weight","middle"],Ba (top 24),[("weights_of",93,1)],[],true⟩ 40 o_set_closing.1 o_set_closing.2.1 o_set_closing.2.2:=⟨(Bc (top 24)).take 6,_,_,_,_,_,rfl,by kernel_rfl,by kernel_rfl,by kernel_rfl,rfl⟩
def BK:trSs 40 ⟨["shape"],Ba (top 13),[],[],false⟩ (Bc (top 13))=some jb:=by kernel_rfl
def BL:trSs 40 ⟨["one","other","great","small","rest"],Ba (top 4),[],[],false⟩ (Bc (top 4))=some k6:=by kernel_rfl
def BM:trSs 40 ⟨["one","other","shared","top","rest"],Ba (top 6),[("divisor",0,2)],[],false⟩ (Bc (top 6))=some k9:=by kernel_rfl
def BN:trSs 40 ⟨["one","other"],Ba (top 7),[("plus",9,2)],[],false⟩ (Bc (top 7))=some la:=by kernel_rfl
def BO:trSs 40 ⟨["top","bottom","shared"],Ba (top 5),[("divisor",0,2)],[],false⟩ (Bc (top 5))=some k7:=by kernel_rfl
def BP:trSs 40 ⟨["one","other"],Ba (top 8),[("ratio",1,2)],[],false⟩ (Bc (top 8))=some lb:=by kernel_rfl
def BQ:trSs 40 ⟨["parts","common","part","tops","shared","top"],Ba (top 16),[("divisor",0,2)],[],false⟩ (Bc (top 16))=some gs:=by kernel_rfl
def BR:trSs 40 ⟨["start","end","a","b","c"],Ba (top 14),[("minus",10,2),("plus",9,2),("times",11,2),("lowest_whole",43,1)],[],false⟩ (Bc (top 14))=some jc:=by kernel_rfl
def BU:trSs 40 ⟨["shape"],Ba (top 12),[("steps",41,1),("side_between",42,2)],[],false⟩ (Bc (top 12))=some gq:=by kernel_rfl
def BV:trSs 40 ⟨["a","b","spot"],Ba (top 17),[("plus",9,2),("times",11,2)],[],false⟩ (Bc (top 17))=some jd:=by kernel_rfl
def BW:trSs 40 ⟨["one","other"],Ba (top 10),[],[],false⟩ (Bc (top 10))=some fj:=by kernel_rfl
def BX:trSs 40 ⟨["shape","a","b","best","corner","found"],Ba (top 18),[("level",50,3),("below",21,2)],[],false⟩ (Bc (top 18))=some gv:=by kernel_rfl
def BY:trSs 40 ⟨["bounds","k"],Ba (top 22),[],[],false⟩ (Bc (top 22))=some jf:=by kernel_rfl
def BZ:Lj (top 21) ⟨["one","other","bounds","place","side","least","k"],Ba (top 21),[("sides_of",40,1),("minus",10,2),("reach",59,3),("trio_at",92,2)],[],true⟩ 40 o_bounds_of.1 o_bounds_of.2.1 o_bounds_of.2.2.1 o_bounds_of.2.2.2:=⟨_,_,_,_,_,_,_,_,_,_,_,_,_,_,_,_,_,_,_,_,_,_,_,_,_,_,_,_,_,_,_,_,rfl,rfl,by kernel_rfl,by kernel_rfl,rfl,rfl,by kernel_rfl,rfl,by kernel_rfl,rfl,by decide +kernel,by decide +kernel,by decide +kernel⟩
def Ca:oV (top 27) ⟨["bounds","k"],Ba (top 27),[("trio_at",92,2)],[],true⟩ 40 o_drop.1 o_drop.2:=⟨_,_,_,_,_,_,_,_,_,_,_,_,_,rfl,rfl,by kernel_rfl,by kernel_rfl,rfl,rfl,by decide +kernel⟩
def Cb:trSs 40 ⟨["bounds","first","k","closing"],Ba (top 25),[("below",21,2)],[],true⟩ (Bc (top 25))=some jh:=by kernel_rfl
def Cc:trSs 40 ⟨["bounds","k"],Ba (top 26),[("weights_of",93,1),("trio_at",92,2)],[],false⟩ (Bc (top 26))=some ji:=by kernel_rfl
def Cd:trSs 40 ⟨["bound","factor"],Ba (top 29),[("minus",10,2),("times",11,2)],[],true⟩ (Bc (top 29))=some jj:=by kernel_rfl
def Ce:trSs 40 ⟨["one","other"],Ba (top 9),[("ratio",1,2)],[],false⟩ (Bc (top 9))=some lj:=by kernel_rfl
def Cf:trSs 40 ⟨["one","other","factor","first","second","bend","x","y"],Ba (top 28),[("edge_by",99,2),("cross",81,2),("minus",10,2),("times",11,2),("over",20,2)],[],true⟩ (Bc (top 28))=some gx:=by kernel_rfl
def Cg:trSs 40 ⟨["bounds","factor"],Ba (top 30),[("meeting",98,3)],[],false⟩ (Bc (top 30))=some ft:=by kernel_rfl
def Ci:oW (top 32) ⟨["one","other","bounds","k","spots"],Ba (top 32),[("earliest",95,1),("below",21,2),("ends_all",96,2),("meetings",100,2)],[],true⟩ 40 o_pushes.1 o_pushes.2.1 o_pushes.2.2.1 o_pushes.2.2.2:=⟨_,_,_,_,_,_,_,_,_,_,_,_,_,_,_,_,_,_,_,_,_,_,_,_,rfl,by kernel_rfl,by kernel_rfl,by kernel_rfl,by kernel_rfl,by kernel_rfl,by kernel_rfl,by kernel_rfl,by kernel_rfl,by kernel_rfl,rfl,rfl,by decide +kernel,by decide +kernel⟩
def Cj:trSs 40 ⟨["_law_found"],Ba (top 34),[],[],false⟩ (Bc (top 34))=some k8:=by kernel_rfl
def Ck:trSs 40 ⟨["_law_found"],Ba (top 48),[("_law_whole",3,1),("_law_divisor",12,2)],[],false⟩ (Bc (top 48))=some lh:=by kernel_rfl
def Cn:trSs 40 ⟨["_law_found"],Ba (top 49),[("_law_is_fraction",14,1)],[],false⟩ (Bc (top 49))=some gy:=by kernel_rfl
def Co:trSs 40 ⟨["_law_one","_law_other"],Ba (top 44),[],[],false⟩ (Bc (top 44))=some lu:=by kernel_rfl
def Cp:trSs 40 ⟨["_law_one","_law_other"],Ba (top 50),[("_law_less",110,2)],[],false⟩ (Bc (top 50))=some gB:=by kernel_rfl
def Cq:trSs 40 ⟨["_law_one","_law_two","_law_three","_law_ahead_x","_law_ahead_y","_law_on_x","_law_on_y","_law_left","_law_right"],Ba (top 45),[("_law_plus",108,2),("_law_times",74,2)],[],false⟩ (Bc (top 45))=some fk:=by kernel_rfl
def Cr:trSs 40 ⟨["_law_found","_law_falls","_law_k"],Ba (top 51),[("_law_is_spot",114,1),("_law_ahead",115,2),("_law_turn",45,3)],[],false⟩ (Bc (top 51))=some gC:=by kernel_rfl
def Cs:trSs 40 ⟨["_law_shape_here","_law_spot","_law_k"],Ba (top 46),[("_law_turn",45,3)],[],false⟩ (Bc (top 46))=some fo:=by kernel_rfl
def Ct:trSs 40 ⟨["_law_one","_law_other","_law_push_here","_law_spot"],Ba (top 56),[("_law_moved",113,3),("_law_held",112,2)],[],false⟩ (Bc (top 56))=some gG:=by kernel_rfl
def Cu:trSs 40 ⟨["_law_one","_law_other","_law_number","_law_first","_law_second","_law_right"],Ba (top 55),[("_law_mean",54,2),("_law_plus",108,2)],[],false⟩ (Bc (top 55))=some gF:=by kernel_rfl
def Cv:trSs 40 ⟨["_law_found","_law_spot"],Ba (top 52),[("_law_turn",45,3),("_law_ahead",115,2),("_law_held",112,2)],[],false⟩ (Bc (top 52))=some Bq:=by kernel_rfl
def Cw:trSs 40 ⟨["_law_script","_law_head","_law_one","_law_other","_law_half","_law_handed","_law_found","_law_ends","_law_push_here","_law_cell"],Ba (top 57),[("_law_numbers",102,2),("_law_shape",47,1),("_law_nearer",118,2),("_law_mean",54,2),("pushes",101,2),("_law_is_region",116,1),("_law_fits",121,3),("_law_push",72,3),("_law_in_region",117,2)],[],false⟩ (Bc (top 57))=some d9:=by kernel_rfl
section
variable{P:Program}{w:World}{K:vE}{h:Heap}{mg:Str->Option Value}{fa:Addr}
def Cy:oU (eR (top 20) 0):=⟨_,_,_,_,_,_,_,_,_,_,_,_,_,_,_,_,_,rfl⟩
def Cz:FnScope ["self","place","side","least"] ["self","place","side","least"] (Ba (eR (top 20) 0)):=vD
theorem CA:∀(kV d f:Value) (g:Option Addr) (e ct:Value) (us:List Value),us.length=4->bindArgs (PySem.W.fnOf "__init__" "Bound.__init__" (bT (eR (top 20) 0)) (Bc (eR (top 20) 0)) (Ba (eR (top 20) 0)) .none kV d f g e ct) ⟨us,[]⟩=pure ((["self","place","side","least"]:List Str).zip us)
 |_,_,_,_,_,_,[_,_,_,_],_=>rfl
def all_mk(X:K.In h)(G:h.Ns mainGlobals mg)(bg:mg "law" = some (.ref fa))(a5:At K "_law_numbers" (top 35))(Q:At K "_law_bows" (top 39))(R:At K "_law_ring" (top 40))(a6:At K "_law_divisor" (top 36))(S:At K "_law_fraction" (top 37))(E:At K "_law_shape" (top 41))(aq:At K "_law_plus" (top 42))(F:At K "_law_times" (top 43))(H:At K "_law_moved" (top 47))(ae:At K "_law_nearer" (top 53))(ah:At K "_law_digit" (top 38))(T:At K "_law_mean" (top 54))(aQ:At K "cross" (top 15))(af:At K "weights_of" (top 23))(a7:At K "set_closing" (top 24))(aR:At K "steps" (top 13))(aH:At K "divisor" (top 4))(b3:At K "plus" (top 6))(aS:At K "minus" (top 7))(aT:At K "ratio" (top 5))(aU:At K "times" (top 8))(U:At K "lowest_whole" (top 16))(V:At K "side_between" (top 14))(ar:At K "sides_of" (top 12))(aV:At K "level" (top 17))(aW:At K "below" (top 10))(aX:At K "reach" (top 18))(aI:At K "trio_at" (top 22))(ai:At K "bounds_of" (top 21))(b4:At K "drop" (top 27))(as:At K "earliest" (top 25))(au:At K "ends_all" (top 26))(aJ:At K "edge_by" (top 29))(b5:At K "over" (top 9))(aK:At K "meeting" (top 28))(av:At K "meetings" (top 30))(aO:At K "pushes" (top 32))(aj:At K "_law_whole" (top 34))(t:At K "_law_is_fraction" (top 48))(a8:At K "_law_is_spot" (top 49))(aw:At K "_law_less" (top 44))(ak:At K "_law_ahead" (top 50))(Y:At K "_law_turn" (top 45))(I:At K "_law_is_region" (top 51))(ax:At K "_law_held" (top 46))(ay:At K "_law_fits" (top 56))(Z:At K "_law_push" (top 55))(J:At K "_law_in_region" (top 52))(aL:At K "law" (top 57))(f:AtC K (eR (top 20) 0))
 (bh:PySem.W.nsIn K mainGlobals "len" = some none)(bi:PySem.W.nsIn K mainGlobals "abs" = some none)(b2:PySem.W.nsIn K mainGlobals "isinstance" = some none)(bj:PySem.W.nsIn K mainGlobals "int" = some none)(bd:PySem.W.nsIn K mainGlobals "bool" = some none)(bb:PySem.W.nsIn K mainGlobals "tuple" = some none)(be:PySem.W.nsIn K mainGlobals "list" = some none)(bc:PySem.W.nsIn K mainGlobals "range" = some none)(b6:PySem.W.nsIn K mainGlobals "enumerate" = some none)(bk:PySem.W.nsIn K mainGlobals "min" = some none)(bl:PySem.W.nsIn K mainGlobals "max" = some none)(ba:PySem.W.nsIn K mainGlobals "sorted" = some none)(bm:PySem.W.nsIn K mainGlobals "set" = some none)(b9:PySem.W.nsIn K mainGlobals "reversed" = some none)(bn:PySem.W.nsIn K mainGlobals "zip" = some none)(bo:PySem.W.nsIn K mainGlobals "sum" = some none):
  ∃fd:FuncData,(∀(s:Shared) (v:Value),BindsTo s fd ⟨[v],[]⟩ [("_law_script",v)]) ∧ ∀d:Heap,K.In d->d.Ns mainGlobals mg->FnOk P w K mg d C3 49 fa fd ["_law_script"] (Et K 1 (run Γ d9 10)):=by
 have l:∀x∈dw,mg x=none:=uG X G (by
  intro x hx;simp only[dw,Zf,Zk,or_false] at hx;rcases hx with rfl|rfl|rfl|rfl|rfl|rfl|rfl|rfl|rfl|rfl|rfl|rfl|rfl|rfl|rfl|rfl<;>assumption)
 refine GZ aL X G bg A4 A5 Cw (λd hk hn=>?_);have a9:GFn P w K mg d 1 "_law_numbers" 2 (Γ 102):=Bn (Γ:=Γ) (k:=0) a5 X G y8 y9 A6 rfl ⟨Calls.nil,CallsR.nil,(λh=>nomatch h),l⟩ (by apply DL.ok_law_numbers<;>rfl);have a0:GFn P w K mg d 2 "_law_bows" 1 (Γ 105):=Bn (Γ:=Γ) (k:=1) Q X G za zb A7 rfl ⟨Calls.nil,CallsR.nil,(λh=>nomatch h),l⟩ (by apply DL.ok_law_bows_k31<;>rfl);have a1:GFn P w K mg d 3 "_law_ring" 1 (Γ 46):=Bn (Γ:=Γ) (k:=2) R X G zc zd A8 rfl ⟨(Calls.cons a0 vA Calls.nil),CallsR.nil,(λh=>nomatch h),l⟩ (by apply DL.ok_law_ring6<;>rfl);have p:GFn P w K mg d 4 "_law_divisor" 2 (Γ 12):=Bn (Γ:=Γ) (k:=3) a6 X G ze zf A9 rfl ⟨Calls.nil,CallsR.nil,(λh=>nomatch h),l⟩ (by apply DL.ok_law_divisor<;>rfl);have i:GFn P w K mg d 5 "_law_fraction" 2 (Γ 103):=Bn (Γ:=Γ) (k:=4) S X G zh zi Bp rfl ⟨(Calls.cons p vA Calls.nil),CallsR.nil,(λh=>nomatch h),l⟩ (by apply DL.ok_law_fraction<;>rfl);have L:GFn P w K mg d 6 "_law_shape" 1 (Γ 47):=Bn (Γ:=Γ) (k:=5) E X G zj zk BA rfl ⟨(Calls.cons a1 vA (Calls.cons i vA Calls.nil)),CallsR.nil,(λh=>nomatch h),l⟩ (by apply DL.ok_law_shape6<;>rfl);have g:GFn P w K mg d 7 "_law_plus" 2 (Γ 108):=Bn (Γ:=Γ) (k:=6) aq X G zm zo BB rfl ⟨(Calls.cons i vA Calls.nil),CallsR.nil,(λh=>nomatch h),l⟩ (by apply DL.ok_law_plus<;>rfl);have e:GFn P w K mg d 8 "_law_times" 2 (Γ 74):=Bn (Γ:=Γ) (k:=7) F X G zp zq BC rfl ⟨(Calls.cons i vA Calls.nil),CallsR.nil,(λh=>nomatch h),l⟩ (by apply DL.ok_law_timesR<;>rfl);have m:GFn P w K mg d 9 "_law_moved" 3 (Γ 113):=Bn (Γ:=Γ) (k:=8) H X G zt zu BD rfl ⟨(Calls.cons g vA (Calls.cons e vA Calls.nil)),CallsR.nil,(λh=>nomatch h),l⟩ (by apply DL.ok_law_moved6<;>rfl);have ag:GFn P w K mg d 10 "_law_nearer" 2 (Γ 118):=Bn (Γ:=Γ) (k:=9) ae X G zw zx BE rfl ⟨(Calls.cons g vA (Calls.cons e vA (Calls.cons m vA Calls.nil))),CallsR.nil,(λh=>nomatch h),l⟩ (by apply DL.ok_law_nearer<;>rfl);have am:GFn P w K mg d 11 "_law_digit" 3 (Γ 104):=Bn (Γ:=Γ) (k:=10) ah X G zy zA BF rfl ⟨Calls.nil,CallsR.nil,(λh=>nomatch h),l⟩ (by apply DL.ok_law_digit<;>rfl);have o:GFn P w K mg d 12 "_law_mean" 2 (Γ 54):=Bn (Γ:=Γ) (k:=11) T X G zB zC BG rfl ⟨(Calls.cons am vA (Calls.cons g vA (Calls.cons e vA Calls.nil))),CallsR.nil,(λh=>nomatch h),l⟩ (by apply DL.ok_law_mean6<;>rfl);have az:GFn P w K mg d 13 "cross" 2 (Γ 81):=Bn (Γ:=Γ) (k:=12) aQ X G zD zE BH rfl ⟨Calls.nil,CallsR.nil,(λh=>nomatch h),l⟩ (by apply DL.ok_cross<;>rfl);have r:GFn P w K mg d 14 "weights_of" 1 (Γ 93):=Bn (Γ:=Γ) (k:=13) af X G zF zG BI rfl ⟨(Calls.cons az vA Calls.nil),CallsR.nil,(λ_=>f.bf),l⟩ (by apply DL.ok_weights_of<;>rfl);have q:GSp P w K mg d 15 "set_closing" (cn K Ie):=vV (k:=14) a7 X G zH zI BJ ⟨(Calls.cons r vA Calls.nil),CallsR.nil,(λ_=>f.bf),l⟩ (GA rfl);have aY:GFn P w K mg d 16 "steps" 1 (Γ 41):=Bn (Γ:=Γ) (k:=15) aR X G zJ zK BK rfl ⟨Calls.nil,CallsR.nil,(λh=>nomatch h),l⟩ (by apply DL.ok_steps<;>rfl);have u:GFn P w K mg d 17 "divisor" 2 (Γ 0):=Bn (Γ:=Γ) (k:=16) aH X G zM zN BL rfl ⟨Calls.nil,CallsR.nil,(λh=>nomatch h),l⟩ (by apply DL.ok_divisor<;>rfl);have an:GFn P w K mg d 18 "plus" 2 (Γ 9):=Bn (Γ:=Γ) (k:=17) b3 X G zO zP BM rfl ⟨(Calls.cons u vA Calls.nil),CallsR.nil,(λh=>nomatch h),l⟩ (by apply DL.ok_plus<;>rfl);have B:GFn P w K mg d 19 "minus" 2 (Γ 10):=Bn (Γ:=Γ) (k:=18) aS X G zQ zR BN rfl ⟨(Calls.cons an vA Calls.nil),CallsR.nil,(λh=>nomatch h),l⟩ (by apply DL.ok_minus<;>rfl);have aA:GFn P w K mg d 20 "ratio" 2 (Γ 1):=Bn (Γ:=Γ) (k:=19) aT X G zS zT BO rfl ⟨(Calls.cons u vA Calls.nil),CallsR.nil,(λh=>nomatch h),l⟩ (by apply DL.ok_ratio<;>rfl);have C:GFn P w K mg d 21 "times" 2 (Γ 11):=Bn (Γ:=Γ) (k:=20) aU X G zU zV BP rfl ⟨(Calls.cons aA vA Calls.nil),CallsR.nil,(λh=>nomatch h),l⟩ (by apply DL.ok_times<;>rfl);have a2:GFn P w K mg d 22 "lowest_whole" 1 (Γ 43):=Bn (Γ:=Γ) (k:=21) U X G zW zX BQ rfl ⟨(Calls.cons u vA Calls.nil),CallsR.nil,(λh=>nomatch h),l⟩ (by apply DL.ok_lowest_whole<;>rfl);have a3:GFn P w K mg d 23 "side_between" 2 (Γ 42):=Bn (Γ:=Γ) (k:=22) V X G zY zZ BR rfl ⟨(Calls.cons B vA (Calls.cons an vA (Calls.cons C vA (Calls.cons a2 vA Calls.nil)))),CallsR.nil,(λh=>nomatch h),l⟩ (by apply DL.ok_side_between<;>rfl);have aB:GFn P w K mg d 24 "sides_of" 1 (Γ 40):=Bn (Γ:=Γ) (k:=23) ar X G z0 z8 BU rfl ⟨(Calls.cons aY vA (Calls.cons a3 vA Calls.nil)),CallsR.nil,(λh=>nomatch h),l⟩ (by apply DL.ok_sides_of<;>rfl);have aZ:GFn P w K mg d 25 "level" 3 (Γ 50):=Bn (Γ:=Γ) (k:=24) aV X G z9 Aa BV rfl ⟨(Calls.cons an vA (Calls.cons C vA Calls.nil)),CallsR.nil,(λh=>nomatch h),l⟩ (by apply DL.ok_level<;>rfl);have aa:GFn P w K mg d 26 "below" 2 (Γ 21):=Bn (Γ:=Γ) (k:=25) aW X G Ab Ac BW rfl ⟨Calls.nil,CallsR.nil,(λh=>nomatch h),l⟩ (by apply DL.ok_belowR<;>rfl);have b0:GFn P w K mg d 27 "reach" 3 (Γ 59):=Bn (Γ:=Γ) (k:=26) aX X G Ad Ae BX rfl ⟨(Calls.cons aZ vA (Calls.cons aa vA Calls.nil)),CallsR.nil,(λh=>nomatch h),l⟩ (by apply DL.ok_reachR<;>rfl);have z:GFn P w K mg d 28 "trio_at" 2 (Γ 92):=Bn (Γ:=Γ) (k:=27) aI X G Af Ag BY rfl ⟨Calls.nil,CallsR.nil,(λh=>nomatch h),l⟩ (by apply DL.ok_trio_at<;>rfl);have b1:MkB P w K mg d 1:=GQ (k:=0) f X G Cz CA Cy (by decide +kernel);have ao:GSp P w K mg d 29 "bounds_of" (D2 K Xi):=Ho (k:=27) ai X G Ah Ai (by decide +kernel) BZ (l "range" (by decide +kernel)) (q.mono vA) (b1.mono vA) ⟨(Calls.cons aB vA (Calls.cons B vA (Calls.cons b0 vA (Calls.cons z vA Calls.nil)))),CallsR.nil,(λ_=>f.bf),l⟩ (Ik rfl rfl rfl rfl);have b7:GSp P w K mg d 30 "drop" (fu K Ic):=vW (k:=29) b4 X G Aj Ak (by decide +kernel) Ca (q.mono vA) ⟨(Calls.cons z vA Calls.nil),CallsR.nil,(λ_=>f.bf),l⟩ (FJ rfl);have aC:GFn P w K mg d 31 "earliest" 1 (Γ 95):=Bn (Γ:=Γ) (k:=30) as X G Al Am Cb rfl ⟨(Calls.cons aa vA Calls.nil),CallsR.nil,(λ_=>f.bf),l⟩ (by apply DL.ok_earliest<;>rfl);have aD:GFn P w K mg d 32 "ends_all" 2 (Γ 96):=Bn (Γ:=Γ) (k:=31) au X G An Ao Cc rfl ⟨(Calls.cons r vA (Calls.cons z vA Calls.nil)),CallsR.nil,(λh=>nomatch h),l⟩ (by apply DL.ok_ends_all<;>rfl);have aM:GFn P w K mg d 33 "edge_by" 2 (Γ 99):=Bn (Γ:=Γ) (k:=32) aJ X G Ap Aq Cd rfl ⟨(Calls.cons B vA (Calls.cons C vA Calls.nil)),CallsR.nil,(λ_=>f.bf),l⟩ (by apply DL.ok_edge_by<;>rfl);have b8:GFn P w K mg d 34 "over" 2 (Γ 20):=Bn (Γ:=Γ) (k:=33) b5 X G As Au Ce rfl ⟨(Calls.cons aA vA Calls.nil),CallsR.nil,(λh=>nomatch h),l⟩ (by apply DL.ok_over<;>rfl);have aN:GFn P w K mg d 35 "meeting" 3 (Γ 98):=Bn (Γ:=Γ) (k:=34) aK X G Av Aw Cf rfl ⟨(Calls.cons aM vA (Calls.cons az vA (Calls.cons B vA (Calls.cons C vA (Calls.cons b8 vA Calls.nil))))),CallsR.nil,(λ_=>f.bf),l⟩ (by apply DL.ok_meeting<;>rfl);have aE:GFn P w K mg d 36 "meetings" 2 (Γ 100):=Bn (Γ:=Γ) (k:=35) av X G Ax Ay Cg rfl ⟨(Calls.cons aN vA Calls.nil),CallsR.nil,(λh=>nomatch h),l⟩ (by apply DL.ok_meetings<;>rfl);have aP:GFn P w K mg d 37 "pushes" 2 (Γ 101):=vY (k:=36) (n:=1) aO X G Az rfl AA Ci (ao.mono vA) (b7.mono vA) ⟨(Calls.cons aC vA (Calls.cons aa vA (Calls.cons aD vA (Calls.cons aE vA Calls.nil)))),CallsR.nil,(λ_=>f.bf),l⟩ (yc rfl rfl rfl rfl);have ap:GFn P w K mg d 38 "_law_whole" 1 (Γ 3):=Bn (Γ:=Γ) (k:=37) aj X G AB AD Cj rfl ⟨Calls.nil,CallsR.nil,(λh=>nomatch h),l⟩ (by apply DL.ok_law_whole<;>rfl);have A:GFn P w K mg d 39 "_law_is_fraction" 1 (Γ 14):=Bn (Γ:=Γ) (k:=38) t X G AE AF Ck rfl ⟨(Calls.cons ap vA (Calls.cons p vA Calls.nil)),CallsR.nil,(λh=>nomatch h),l⟩ (by apply DL.ok_law_is_fraction<;>rfl);have ab:GFn P w K mg d 40 "_law_is_spot" 1 (Γ 114):=Bn (Γ:=Γ) (k:=39) a8 X G AG AH Cn rfl ⟨(Calls.cons A vA Calls.nil),CallsR.nil,(λh=>nomatch h),l⟩ (by apply DL.ok_law_is_spot<;>rfl);have aF:GFn P w K mg d 41 "_law_less" 2 (Γ 110):=Bn (Γ:=Γ) (k:=40) aw X G AI AJ Co rfl ⟨Calls.nil,CallsR.nil,(λh=>nomatch h),l⟩ (by apply DL.ok_law_less<;>rfl);have D:GFn P w K mg d 42 "_law_ahead" 2 (Γ 115):=Bn (Γ:=Γ) (k:=41) ak X G AK AL Cp rfl ⟨(Calls.cons aF vA Calls.nil),CallsR.nil,(λh=>nomatch h),l⟩ (by apply DL.ok_law_ahead<;>rfl);have j:GFn P w K mg d 43 "_law_turn" 3 (Γ 45):=Bn (Γ:=Γ) (k:=42) Y X G AM AN Cq rfl ⟨(Calls.cons g vA (Calls.cons e vA Calls.nil)),CallsR.nil,(λh=>nomatch h),l⟩ (by apply DL.ok_law_turn6<;>rfl);have M:GFn P w K mg d 44 "_law_is_region" 1 (Γ 116):=Bn (Γ:=Γ) (k:=43) I X G AO AQ Cr rfl ⟨(Calls.cons ab vA (Calls.cons D vA (Calls.cons j vA Calls.nil))),CallsR.nil,(λh=>nomatch h),l⟩ (by apply DL.ok_law_is_region<;>rfl);have O:GFn P w K mg d 45 "_law_held" 2 (Γ 112):=Bn (Γ:=Γ) (k:=44) ax X G AR AS Cs rfl ⟨(Calls.cons j vA Calls.nil),CallsR.nil,(λh=>nomatch h),l⟩ (by apply DL.ok_law_held6<;>rfl);have aG:GFn P w K mg d 46 "_law_fits" 3 (Γ 121):=Bn (Γ:=Γ) (k:=45) ay X G AU AV Ct rfl ⟨(Calls.cons m vA (Calls.cons O vA Calls.nil)),CallsR.nil,(λh=>nomatch h),l⟩ (by apply DL.ok_law_fits<;>rfl);have a4:GFn P w K mg d 47 "_law_push" 3 (Γ 72):=Bn (Γ:=Γ) (k:=46) Z X G AW AX Cu rfl ⟨(Calls.cons o vA (Calls.cons g vA Calls.nil)),CallsR.nil,(λh=>nomatch h),l⟩ (by apply DL.ok_law_push6<;>rfl);have N:GFn P w K mg d 48 "_law_in_region" 2 (Γ 117):=Bn (Γ:=Γ) (k:=47) J X G AY AZ Cv rfl ⟨(Calls.cons j vA (Calls.cons D vA (Calls.cons O vA Calls.nil))),CallsR.nil,(λh=>nomatch h),l⟩ (by apply DL.ok_law_in_region<;>rfl);exact⟨(Calls.cons a9 vA (Calls.cons L vA (Calls.cons ag vA (Calls.cons o vA (Calls.cons aP vA (Calls.cons M vA (Calls.cons aG vA (Calls.cons a4 vA (Calls.cons N vA Calls.nil))))))))),CallsR.nil,(λh=>nomatch h),l⟩
end
def walk{l:PySem.W.OpenLaw}{q:Program}{g:List Str}{r:(Str->Option Value)->Heap->Prop}{m:World->Heap->Prop}{d:DefRec}{K:Params->vE}(t:l.most=some 63)(j:d.params.defaults=[])
 (v:∀(w:World) (h:Heap),m w h->(K w.params).In h)
 (F:∀(w:World) (i:Str->Option Value) (o:Addr) (h:Heap),(K w.params).In h->h.Ns mainGlobals i->i d.name=some (.ref o) →
   ∃p:FuncData,(∀(s:Shared) (u:Value),BindsTo s p ⟨[u],[]⟩ [("_law_script",u)]) ∧ ∀e:Heap,(K w.params).In e->e.Ns mainGlobals i->FnOk l.prog w (K w.params) i e C3 49 o p ["_law_script"] (Et (K w.params) 1 (run Γ d9 10))):
  PySem.W.WalkO q g r m l.row.toRowW d [] (λf A=>PySem.call f A):=
 L2.walk_of (n:=63) (k:=49) (x := "_law_script") (CX:=λ_=>C3) (sp:=λw=>Et (K w.params) 1 (run Γ d9 10)) t vA j ⟨rfl,by decide,by decide⟩ v F (λ_ H a B C _ hS=>uF y6 H a B C hS) λ_ _ _ _ _ z=>z
end LW
open PySem PySem.W PyProof.Rows
/-! size: the head lays twins of its constants; where these names stand it goes on without -/
namespace PySem.W.Fast
def tw9666926440811095100:=Nat
def tw14595636560465473003:=Nat
def tw12339166958208155935:=Nat
def tw15396520971993416038:=Nat
def tw3864096726133840323:=Nat
def tw16730440672017598298:=Nat
def tw7642195713377052847:=Nat
def tw3611823716845099545:=Nat
def tw7074548712024658319:=Nat
def tw13485074571946996636:=Nat
def tw10419555803040206108:=Nat
def tw15953884456018496925:=Nat
def tw4759934954143344776:=Nat
def tw7060658589874774940:=Nat
def tw16540052812039286824:=Nat
def tw13738240314358995172:=Nat
def tw691039421270705180:=Nat
def tw4314766522134397210:=Nat
def tw2744392338753094230:=Nat
def tw13868540352718604780:=Nat
def tw3272214594365685307:=Nat
def tw3208317094781071656:=Nat
def tw8495098127176972886:=Nat
def tw13794949093059135335:=Nat
def tw10430578168194614750:=Nat
def tw6968321835207561070:=Nat
def tw11061366605629556232:=Nat
def tw342853963759211264:=Nat
def tw9476896353928120449:=Nat
def tw5893115929381002166:=Nat
def tw5154917831927330303:=Nat
def tw7956237215288528004:=Nat
def tw6533782562356132624:=Nat
def tw10949798815726616951:=Nat
def tw9036404653363728391:=Nat
def tw17650416746951944109:=Nat
def tw16310418959880459051:=Nat
def tw2386401225546629543:=Nat
def tw2822089600954015394:=Nat
def tw15528823971240344119:=Nat
def tw12676435588730651714:=Nat
def tw11129392905315457924:=Nat
def tw15018854524157107873:=Nat
def tw5758180246661902245:=Nat
def tw1341851125164363633:=Nat
def tw1414697168028432188:=Nat
def tw12189078959193836045:=Nat
def tw9570761764472645411:=Nat
def tw2610290941371560689:=Nat
def tw8477881708255034013:=Nat
def tw16876119133096398552:=Nat
def tw13516094952370156614:=Nat
def tw9952826502693661599:=Nat
def tw15963903344870624408:=Nat
def tw8363632796214968414:=Nat
def tw6232938564653894088:=Nat
def tw2560893930081057443:=Nat
def tw14266965555038999580:=Nat
def tw1167226128253263803:=Nat
def tw16827130463046882452:=Nat
def tw17142315792289121735:=Nat
def tw14585065829316762993:=Nat
def tw982943824839430996:=Nat
def tw6594359061542002373:=Nat
def tw14376859875785028382:=Nat
def tw5613271639803303035:=Nat
def tw4277785191451331378:=Nat
def tw9335476859277604558:=Nat
def tw16362606124902538253:=Nat
def tw5360784149872441046:=Nat
def tw180336878343013542:=Nat
def tw5827461461096284467:=Nat
def tw15751125823437613910:=Nat
def tw18294702242221347744:=Nat
def tw3882939687970233010:=Nat
def tw990345894294560046:=Nat
def tw3153110079832630127:=Nat
def tw9919685696344124981:=Nat
def tw12006995319302903297:=Nat
def tw12607526193731366384:=Nat
def tw2096693425258653589:=Nat
def tw15803891286824327468:=Nat
def tw9519495802740007236:=Nat
def tw13415246664875311965:=Nat
def tw12867805557338466247:=Nat
def tw16333794681564902543:=Nat
def tw1991300290741580187:=Nat
def tw8822817944137408842:=Nat
def tw4828449432068182717:=Nat
def tw12816086881816738538:=Nat
def tw2844621406198265325:=Nat
def tw4448284064029531009:=Nat
def tw17444241689208169271:=Nat
def tw17108358190959085869:=Nat
def tw8431251975773240911:=Nat
def tw10644562935530476753:=Nat
def tw12556347054530976424:=Nat
def tw17220556189807882623:=Nat
def tw8192009546078509250:=Nat
def tw18180887729001333766:=Nat
def tw15013103024192700235:=Nat
def tw14245620589013482635:=Nat
def tw459595826713933034:=Nat
def tw14017133381560032663:=Nat
def tw7328144595081299904:=Nat
def tw14232247815094466558:=Nat
def tw18100859874132283842:=Nat
def tw2197576002018079449:=Nat
def tw14126913425618157083:=Nat
def tw12576432127299823682:=Nat
def tw7627655476326866504:=Nat
def tw303047748113831030:=Nat
def tw9927419579600875740:=Nat
def tw7142175551808083564:=Nat
def tw14418538397455351478:=Nat
def tw12497123734410302151:=Nat
def tw5606344753482391469:=Nat
def tw15601423847824253357:=Nat
def tw6129062866279658923:=Nat
def tw2339831723516695021:=Nat
def tw4728419036711683783:=Nat
def tw2228424202846182989:=Nat
def tw14153380642468893743:=Nat
def tw13206150008778920546:=Nat
def tw13276726178622237481:=Nat
def tw9934772371277149753:=Nat
def tw887148756480802286:=Nat
def tw16887649175451768547:=Nat
def tw12477889777451770647:=Nat
def tw11727547416872220725:=Nat
def tw1576877592091766767:=Nat
def tw9961392503800305023:=Nat
def tw18423913433726960650:=Nat
def tw8000651556490180974:=Nat
def tw11877264732241169902:=Nat
def tw12500945157646500433:=Nat
def tw3928724519046566019:=Nat
def tw2333562531315475362:=Nat
def tw6582141506123512648:=Nat
def tw10186417230011009822:=Nat
def tw995278274001124786:=Nat
def tw415277414472047366:=Nat
def tw1869934746285854360:=Nat
def tw15587678316075595817:=Nat
def tw2343236206519317762:=Nat
def tw5092656152571027128:=Nat
def tw4953656001803757514:=Nat
def tw6731495933943685512:=Nat
def tw14548531934349943958:=Nat
def tw10618566274802702402:=Nat
def tw11407101438685951511:=Nat
def tw2898467854563134460:=Nat
def tw17892049201438587102:=Nat
def tw4419462341199975421:=Nat
def tw10446981800118079536:=Nat
def tw13464955637109531988:=Nat
def tw1265966497063999955:=Nat
def tw14276071791443380585:=Nat
def tw7648740038284422199:=Nat
def tw13802088487733780556:=Nat
def tw3444140573181594349:=Nat
def tw587112321974794220:=Nat
def tw14593851850460228108:=Nat
def tw7198725382031267464:=Nat
def tw6973756222866800088:=Nat
def tw6548892705847075916:=Nat
def tw8571152890697795399:=Nat
def tw14686538828185822925:=Nat
def tw4425676235055327814:=Nat
def tw5675108302440303723:=Nat
def tw2698522674090423593:=Nat
def tw6477217236998755591:=Nat
def tw7964364526259562883:=Nat
def tw3497803845557008382:=Nat
def tw14927703437239424054:=Nat
def tw1771538769223133060:=Nat
def tw12440982848229706661:=Nat
def tw5527636821502761157:=Nat
def tw3121228946070544654:=Nat
def tw4071270747798349709:=Nat
def tw1042406462178581867:=Nat
def tw16062803591935043516:=Nat
def tw15774385381572646201:=Nat
def tw8960264601733492054:=Nat
def tw17214446756835027918:=Nat
def tw11382330016645166324:=Nat
def tw11859129414210485174:=Nat
def tw685863857206314134:=Nat
def tw1475392981697965929:=Nat
def tw4001030334843569541:=Nat
def tw5880216106865029232:=Nat
def tw444972127703835097:=Nat
def tw7273934184153114787:=Nat
def tw1998636227915918600:=Nat
def tw4434584880646813229:=Nat
def tw16713549575398433327:=Nat
def tw2058610545993788494:=Nat
def tw6248352729504878816:=Nat
def tw3728522741174591736:=Nat
def tw4691014147912187339:=Nat
def tw13328661365133363383:=Nat
def tw15476850547536901298:=Nat
def tw14099564298824123814:=Nat
def tw1799373825301105409:=Nat
def tw13027873649835058468:=Nat
def tw4208624239851966228:=Nat
def tw2229067818765345556:=Nat
def tw17361632899179171209:=Nat
def tw9331175237443206319:=Nat
def tw8639597171480475376:=Nat
def tw15668863724111446646:=Nat
def tw7416665844132110138:=Nat
def tw16520200783565775894:=Nat
def tw3596233461353806003:=Nat
def tw6298532525697953117:=Nat
def tw5909541673996756233:=Nat
def tw18152123190657327837:=Nat
def tw11134062146235431925:=Nat
def tw2554757805345447526:=Nat
def tw7285594329690356994:=Nat
def tw15451015300546570532:=Nat
def tw687635463064578123:=Nat
def tw17761165666888877654:=Nat
def tw15133398745387731870:=Nat
def tw14561296200919174105:=Nat
def tw10144957774333970:=Nat
def tw4951892999687462246:=Nat
def tw18353334971458386620:=Nat
def tw7133066568019132971:=Nat
def tw15385056069423044471:=Nat
def tw10197307670537097906:=Nat
def tw11830125985485977421:=Nat
def tw374205206902215375:=Nat
def tw12386093199418149587:=Nat
def tw17074431453363495171:=Nat
def tw3537555672595682356:=Nat
def tw10345993401790595377:=Nat
def tw13337059325622526955:=Nat
def tw11609466203628130897:=Nat
def tw5766988493027799503:=Nat
def tw5652404548712419647:=Nat
def tw10882035147024462177:=Nat
def tw15982124899083553581:=Nat
def tw176720051158034981:=Nat
def tw18225083232104764806:=Nat
def tw13877446811079151173:=Nat
def tw3882210700964246208:=Nat
def tw79908759730525361:=Nat
def tw4784664035270218347:=Nat
def tw16285000898361707891:=Nat
def tw3664316521956706467:=Nat
def tw18442238735399367991:=Nat
def tw17037732996730388024:=Nat
def tw9246346387321140793:=Nat
def tw14458952798444562365:=Nat
def tw882591640850935434:=Nat
def tw565758750791475943:=Nat
def tw1557747305878381110:=Nat
def tw18178162302607136056:=Nat
def tw4772256681339577794:=Nat
def tw6985298669048851817:=Nat
def tw224278791200735959:=Nat
def tw16321708478950965088:=Nat
def tw17985151713924500879:=Nat
def tw2843213897504047318:=Nat
def tw12520753197819403193:=Nat
def tw14654269224766216739:=Nat
def tw12490889836490689444:=Nat
def tw17215076743713980424:=Nat
def tw2345199573077120563:=Nat
def tw3801844596683761736:=Nat
def tw17632756342554230496:=Nat
def tw5454732602261538256:=Nat
def tw103844929559496692:=Nat
def tw5505568382948362952:=Nat
def tw8908297918544334777:=Nat
def tw18440437840605133406:=Nat
def tw14720789055162612750:=Nat
def tw472171867412280456:=Nat
def tw15276439018949532290:=Nat
def tw5341495469920859935:=Nat
def tw9797338506940124844:=Nat
def tw12504115641184332322:=Nat
def tw12246900873338127094:=Nat
def tw7686356744961398575:=Nat
def tw16198637363206925466:=Nat
def tw15266042816187935102:=Nat
def tw16660580502251604694:=Nat
def tw14877244283401972130:=Nat
def tw15663595067087001127:=Nat
def tw2924166957923977641:=Nat
def tw15939599105485573704:=Nat
def tw6503904241219433672:=Nat
def tw8370807466080028781:=Nat
def tw11256095012820309389:=Nat
def tw2562068717976758815:=Nat
def tw570003970983390731:=Nat
def tw18131115614565065662:=Nat
def tw5199401420476980560:=Nat
def tw13317231897878430040:=Nat
def tw2539104476872041489:=Nat
def tw1215734011353698343:=Nat
def tw3058529821395838339:=Nat
def tw7305093047072115607:=Nat
def tw3481751441309886997:=Nat
def tw9385935803925890105:=Nat
def tw16824890979649568590:=Nat
def tw14127334536085344379:=Nat
def tw4280948025017297535:=Nat
def tw4905245261164788753:=Nat
def tw12168509175222180191:=Nat
def tw2581293423650239498:=Nat
def tw9805708618232259497:=Nat
def tw16643730596542838389:=Nat
def tw17322236283736653692:=Nat
def tw783140472125559136:=Nat
def tw17263769946279245379:=Nat
def tw6218599455085847128:=Nat
def tw8147859430300607835:=Nat
def tw9554165049374471284:=Nat
def tw13250427468380547034:=Nat
def tw3785396748174763400:=Nat
def tw16236884763978627675:=Nat
def tw2514545495150992635:=Nat
def tw2361685453279056767:=Nat
def tw11194664131871881768:=Nat
def tw9458296474599044513:=Nat
def tw350672966363052182:=Nat
def tw4323055488800193362:=Nat
def tw6888035489213939656:=Nat
def tw8937825394100641492:=Nat
def tw17246985992139437049:=Nat
def tw7943163618641523127:=Nat
def tw3958963348569268009:=Nat
def tw13628968926413157288:=Nat
def tw18165880684788772463:=Nat
def tw2038736112801719288:=Nat
def tw8227786629244291123:=Nat
def tw17166264309516393570:=Nat
def tw7217939389136582129:=Nat
def tw3253826559499999918:=Nat
def tw9485052709207482995:=Nat
def tw13287598108854100074:=Nat
def tw16014922716120652226:=Nat
def tw55854449741786185:=Nat
def tw12150051875040307319:=Nat
def tw10090603776368351231:=Nat
def tw4355108342973071870:=Nat
def tw10831866494981616991:=Nat
def tw8820582550902005984:=Nat
def tw12796667962039578235:=Nat
def tw5484052552466351979:=Nat
def tw938815842178145600:=Nat
def tw14515588543664580512:=Nat
def tw7035754192837310011:=Nat
end PySem.W.Fast
set_option maxRecDepth 100000 in
set_option maxHeartbeats 0 in
theorem PySem.Challenge.cw_snugfit_k31_whole_pushes_holds : PySem.Challenge.rw_snugfit_k31_whole_pushes.Holds := by
 w_on;o_law;k_head;(case hw=>w_witness2)
 k_fill
 refine LW.walk (l:=PySem.Challenge.rw_snugfit_k31_whole_pushes) rfl rfl (fun w h Y=>PySem.W.kIn_of Y) ?F
 case F=>
  intro w mg fa h KX G hmg;refine' LW.all_mk KX G hmg ?_ ?_ ?_ ?_ ?_ ?_ ?_ ?_ ?_ ?_ ?_ ?_ ?_ ?_ ?_ ?_ ?_ ?_ ?_ ?_ ?_ ?_ ?_ ?_ ?_ ?_ ?_ ?_ ?_ ?_ ?_ ?_ ?_ ?_ ?_ ?_ ?_ ?_ ?_ ?_ ?_ ?_ ?_ ?_ ?_ ?_ ?_ ?_ ?_ ?_ ?_ ?_ ?_ ?_ ?_ ?_ ?_ ?_ ?_ ?_ ?_ ?_ ?_ ?_ ?_ ?_
  all_goals first|(refine' DL.at_mk ?a ?l ?c ?k;(case a=>k_is);(case l=>k_is);(case c=>k_is);(case k=>k_is))|(refine' DL.atc_mk ?a ?m2 ?c1 ?c2 ?c3 ?c4 ?n1 ?n2 ?n3 ?n4 ?m1 ?m3 ?m4 ?l ?c ?k;(case a=>k_is);(case m2=>k_is);(case c1=>k_is);(case c2=>k_is);(case c3=>k_is);(case c4=>k_is);(case n1=>k_is);(case n2=>k_is);(case n3=>k_is);(case n4=>k_is);(case m1=>k_is);(case m3=>k_is);(case m4=>k_is);(case l=>k_is);(case c=>k_is);(case k=>k_is))|k_is
#print axioms PySem.Challenge.cw_snugfit_k31_whole_pushes_holds

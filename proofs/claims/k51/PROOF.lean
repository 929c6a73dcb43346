import PyProof.Rows.All
import Wide.All
import OpenK.AllK
import Wide.FinOn
import Lean
import PyProof.EqAt
import PyProof.EqKinds
import PyProof.TupleCall
import PyProof.P3In
import PyProof.Rows.EqDataRows
import KE.KTryMore
import PyProof.SetScanFacts
import PyProof.Rows.SetFrom
import PyProof.SetRoads
import KE.KSortAsk
import KE.KSortTup
import KE.KRevIter
import PyProof.ZipIter
import PySem.Challenge.RW_snugfit_k51_whole_factors
set_option Elab.async false
set_option linter.all false
set_option maxRecDepth 100000
set_option maxHeartbeats 8000000
set_option compiler.extract_closed false
noncomputable section
set_option genSizeOf false
set_option genInjectivity false
local macro_rules | `(tactic| omega) => `(tactic| first | (with_reducible assumption) | (with_reducible refine Nat.le_trans (by assumption) ?_; decide) | (with_reducible refine Nat.lt_of_lt_of_le ?_ (by assumption); decide) | lia)
open PySem.W renaming Frag→vE
set_option hygiene false in
local macro_rules|`(~~~$x)=>`(some (.sh $x))|`(∅)=>`(List D->Option W)
local macro_rules|`(#v[$xs,*])=>do let r:Lean.TSyntax `term<-xs.getElems.foldrM (λ x a=>`(.cons $x $a)) (<-`(.nil));return r
theorem vA{p:Prop}(h:p:=by decide):p:=h
theorem vB{p:Prop}(h:p:=by omega):p:=h
theorem vC{p:Prop}(h:p:=by simp):p:=h
theorem vD{p:Prop}(h:p:=by exact ⟨rfl,rfl,rfl,by decide +kernel,rfl,by decide +kernel,by decide +kernel⟩):p:=h
open Option renaming bind_eq_some_iff→Za,map_eq_some_iff→Zb,bind_some→Z9,map_some→Wi,getD_some→Q9,bind_none→Uw,isSome_iff_exists→Vf,getD_none→Gu
open List renaming length_map→Zc,getElem?_eq_getElem→Zg,mem_cons→Zh,getD_eq_getElem?_getD→Zi,getElem?_map→Zj,getElem?_eq_some_iff→Zo,mem_map→Zq,not_mem_nil→Zr,size_toArray→Zt,length_cons→Zv,map_cons→Zx,mem_singleton→Z0,length_range→Z6,map_map→Ya,length_append→Yc,getElem?_append_right→Yg,length_drop→Yi,getElem?_set_ne→Yj,mem_append_right→Yk,getElem?_eq_none→Yl,mem_of_getElem?→Yq,getElem?_append_left→Yt,drop_eq_getElem_cons→Yu,getElem?_set_self→Yv,mem_cons_of_mem→Yw,length_replicate→Yy,mem_append→Y0,pairwise_cons→Y5,map_append→Y7,sum_cons→Y8,map_congr_left→We,mem_range→Wj,pairwise_singleton→Wk,getElem?_replicate→Wl,getElem?_cons_succ→Wm,mem_map_of_mem→Wp,mem_cons_self→Wx,length_take→Wy,getElem?_of_mem→W6,map_nil→W7,nodup_cons→W8,length_set→W9,all_cons→Qe,pairwise_iff_getElem→Qi,pairwise_map→Ql,ext_getElem?→Qm,length_reverse→Qq,getElem?_cons_zero→Qr,lookup_cons→Qt,mem_append_left→Q5,getElem?_zip_eq_some→Kb,getElem_mem→Kf,getElem_inj→Kg,getElem_of_mem→Ki,sum_nil→Kk,length_zipIdx→Kn,length_nil→Ko,replicate_succ→K7,getElem?_range→K8,forIn_cons→K9,filterMap_cons→Ja,append_nil→Jb,getElem?_take_of_lt→Jk,mem_reverse→Jp,length_zip→Ju,pairwise_append→J3,forIn_nil→Ud,mem_filterMap→Ul,getElem?_drop→Um,findIdx?_eq_some_iff_getElem→Uo,zipIdx_cons→Uz,getElem_map→U0,all_eq_true→U2,of_mem_zip→Va,mem_filter→Vb,nodup_iff_pairwise_ne→Vi,drop_zero→Vn,map_take→Vy,map_drop→Vz,length_eq_zero_iff→V0,take_of_length_le→V5,length_singleton→V8,getElem?_reverse→V9,eraseIdx_sublist→Ga,reverse_cons→G6,nodup_append→G7,take_length→Bd,drop_length→Be,any_eq_true→Bf
open PySem renaming wpAny_bind→Zd,wpAny_pure→Zs,wpAny_field→Wd,wpAny_seqItems→Wo,wpAny_holding→Qa,wpAny_call_entry→Q0,sizeLine_eq→Q2,wpAny_setField_rec→Q3,wpAny_Call_Name_kw→Q4,wpAny_updateSeq→Q7,wpAny_passesOwn→Q8,wpAny_truthy_bool→Kd,mem_of_lookup→Ke,plainId_quiet→Ku,codeAny_builtin→Kv,sizeLine_eq→K6,wpAny_letGo→Jh,wpAny_rule→Js,wpAny_newObj_type→Jt,wpAny_nextOf_list_item→Ub,wpAny_execs_nil→Uf,wpAny_mono→Uk,wpAny_tryCatch→Uv,wpAny_standAt→U4,wpAny_attempt→U5,wpAny_pyIter_list→Vd,codeAny_mono→Vl,wpAny_pyIter_zip→Vq,wpAny_eqBool_int→Vr,wpAny_newTuple→Gc,wpAny_comprehension_free→Gj,wpAny_onRaise→Go,wpAny_newList→Gp,wpAny_nextOf_list_end→G9,seqIndex_neg→Ba,builtinLookup_eq_fast→Bb
open Nat renaming lt_of_lt_of_le→Ze,le_refl→Zl,mod_eq_of_lt→Zm,ne_of_gt→Yb,lt_or_ge→Yd,lt_of_le_of_lt→Ye,ne_of_lt→Yh,zero_le→Yr,zero_add→Wc,le_trans→Wg,mod_lt→Wn,add_mod_right→Wr,lt_irrefl→Wt,lt_succ_self→Wz,mod_add_mod→Qb,le_add_right→Qu,eq_zero_or_pos→Qz,lt_succ_of_lt→Kw,succ_pos→K0,mod_self→K3,mod_eq_sub_mod→Jg,le_succ→Jo,pow_succ→Jy,min_eq_left→Jz,le_of_lt→J0,mod_mod→Uh,add_mod→Ui,add_sub_cancel→Ur,sub_zero→Uy,succ_ne_self→U8,two_pow_pos→Vg,mul_two→Vh,add_lt_add→Vt,zero_mod→Gd,le_of_eq→Ge,add_comm→Gf,pow_add→Gv,add_sub_assoc→Bc
open PySem.Heap renaming get?_push_of_some→Zf,lt_size→Zn,get?_push_size→Zy,get?_update_other→Yp,get?_update_self→Wv,size_push→Qw,size_update→Kh,get?_none_of_le→Ua
open Bool renaming and_eq_true→Zk,false_ne_true→Zw,false_eq_true→Wb,eq_iff_iff→Jc,eq_false_iff→Jl,or_eq_true→Jw,beq_eq_decide_eq→Gb
open Rat renaming mul_nonneg→Zp,le_of_lt→Zu,mul_pos→Zz,intCast_lt_intCast→Z1,intCast_mul→Z4,num_divInt_den→Ym,div_def→Yz,divInt_eq_div→Y3,mul_inv_cancel→Y6,intCast_eq_zero_iff→Y9,divInt_mul_divInt→Wf,le_refl→Wq,intCast_sub→Ww,inv_pos→Kj,mul_eq_zero→Kq,intCast_add→Kr,divInt_add_divInt→Kz,sub_eq_add_neg→Jf,mul_assoc→Jn,le_trans→Jx,one_mul→Ug,inv_mul_cancel→Uq,mul_comm→Ux,mkRat_self→Vs,not_lt→Vw,divInt_eq_divInt_iff→Vx,intCast_le_intCast→V6,intCast_natCast→Gq,div_mul_cancel→G0
open Option.some renaming inj→Z3
open Int renaming natAbs_mul→Z5,mul_fdiv_cancel_left→Z7,toNat_natCast→Z8,mul_ne_zero→Yf,natCast_nonneg→Yn,natAbs_natCast→Yo,mul_nonneg→Yx,gcd_dvd_right→Wh,mul_pos→Ws,dvd_trans→Wu,emod_nonneg→Qc,mul_nonpos_of_nonneg_of_nonpos→Qd,le_of_lt→Qf,gcd_eq_one_iff→Qg,natAbs_mul_self'→Qn,mul_le_mul_of_nonneg_right→Qs,gcd_dvd_left→Qv,fmod_eq_emod_of_nonneg→Q6,gcd_mul_right_right_of_gcd_eq_one→Ka,mul_comm→Kl,dvd_mul_of_dvd_right→Km,emod_lt_of_pos→Ks,not_lt→Ky,dvd_coe_gcd→Jd,eq_of_mul_eq_mul_right→Je,natAbs_neg→Jj,natAbs_add_le→Jm,one_mul→Jq,natCast_pos→J1,mul_dvd_mul_left→Ue,mul_one→Uj,mul_assoc→Us,lt_irrefl→Ut,zero_add→U3,mul_eq_zero→Vj,fdiv_eq_ediv_of_nonneg→Vo,mul_neg_of_pos_of_neg→Vu,zero_dvd→Gg,natAbs_dvd_natAbs→Gh,gcd_comm→Gi,le_refl→Gw,lt_trichotomy→Bg,emod_eq_of_lt→Bh
open Prod renaming ext→Ys
open PyProof.Rows renaming callWith_type1→Y4,listUpdate_at→U6,assignInOrder_cons→U7,subscriptTail_builtinR→Gz
open Classical renaming byContradiction→Wa
open Ne renaming symm→W5
open Array renaming getElem?_eq_getElem→Qh,getElem_toList→Qk,length_toList→Qp,toList_inj→K4,mem_toList_iff→J2,forIn_toList→Gn
open PySem.Around renaming under_plainId→Qj,in1_units→Gy
open PySem.F renaming slot_zip_next→Qo,plain_extend_loop→Qx,plain_min_loop→Qy,slot_tuple_iterator_next→Kc,plainAttrs_list→Ji,args_zip_next_1→Jr,entry_zip_next→Jv,entry_extend_loop→Uu,slot_list_index→Ve,entry_min_loop→Vk,args_tuple_iterator_next_1→Vp,entry_tuple_iterator_next→Vv
open List.Pairwise renaming imp_of_mem→Q1
open PySem.Heap.SameBut renaming update→Kt
open PySem.W renaming mg_of→Uc,cellsFrom_some→Vm,callWith_K→V7
open PySem.Value renaming isInt_shape→Up
open PySem.AutoSeq1 renaming wpAny_loadPart'→U9
open PySem.Calls renaming Name_function_global→Vc,spliced_cons→Gm,spliced_nil→Gx
open List.Perm renaming refl→Gk
open PySem.Obj renaming data_mapFields→G5
open Decidable renaming em→G8
namespace L2
open PySem PySem.Spec PyProof.Rows
abbrev Key:=Sum Int Str
def keyIs:Key->Value->Bool
 |.inl k,v=>Value.isInt k v
 |.inr x,v=>Value.isStrOf x v
def keyH(w:World):Key->Int
 |.inl k=>hashInt k
 |.inr x=>hashStr w x
theorem zao:∀{k:Key}{v:Value},keyIs k v=true->(∃i t,k=Sum.inl i/\v=Value.int i t)\/(∃x t,k=Sum.inr x/\v=Value.str x t)
 |.inl i,v,h=>by
  obtain⟨t,e⟩:=Up (k:=i) (v:=v) h
  exact .inl ⟨i,t,rfl,e⟩
 |.inr x,v,h=>by
  obtain⟨t,e⟩:=Value.isStrOf_shape (x:=x) (v:=v) h
  exact .inr ⟨x,t,rfl,e⟩
def key_ll(a b:Int):decide ((Sum.inl a:Key)=Sum.inl b)=(a == b):=by
 by_cases e:a=b
 ·subst e;simp
 ·have h:¬(Sum.inl a:Key)=Sum.inl b:=λq=>e (Sum.inl.inj q)
  rw[decide_eq_false h];exact(beq_eq_false_iff_ne.mpr e).symm
def key_rr(a b:Str):decide ((Sum.inr a:Key)=Sum.inr b)=decide (a=b):=by
 by_cases e:a=b
 ·subst e;simp
 ·have h:¬(Sum.inr a:Key)=Sum.inr b:=λq=>e (Sum.inr.inj q)
  rw[decide_eq_false h,decide_eq_false e]
def key_lr(a:Int)(b:Str):decide ((Sum.inl a:Key)=Sum.inr b)=false:=decide_eq_false (λq=>nomatch q)
def key_rl(a:Str)(b:Int):decide ((Sum.inr a:Key)=Sum.inl b)=false:=decide_eq_false (λq=>nomatch q)
def zyd(d:Program)(w:World):PySem.KeyKind d w Key where
 is:=keyIs
 hash:=keyH w
 inj:=λv a b m l=>by
  rcases zao m with⟨i,t,rfl,rfl⟩|⟨x,t,rfl,rfl⟩
  ·rcases zao l with⟨j,u,rfl,e⟩|⟨y,u,rfl,e⟩
   ·injection e with f _;rw[f]
   ·exact nomatch e
  ·rcases zao l with⟨j,u,rfl,e⟩|⟨y,u,rfl,e⟩
   ·exact nomatch e
   ·injection e with f _;rw[f]
 byValue:=λk v h=>by
  rcases zao h with⟨i,t,rfl,rfl⟩|⟨x,t,rfl,rfl⟩<;>rfl
 pyHash:=λg h=>by
  rcases zao g with⟨i,t,rfl,rfl⟩|⟨x,t,rfl,rfl⟩
  ·exact wpAny_pyHash_int h
  ·exact wpAny_pyHash_str h
 eqBool:=λn g h=>by
  rcases zao n with⟨i,t,rfl,rfl⟩|⟨x,t,rfl,rfl⟩
  ·rcases zao g with⟨j,u,rfl,rfl⟩|⟨y,u,rfl,rfl⟩
   ·rw[key_ll] at h;exact Vr h
   ·rw[key_lr] at h;exact SeqAt.EqAt.int_str i t y u _ _ _ _ h
  ·rcases zao g with⟨j,u,rfl,rfl⟩|⟨y,u,rfl,rfl⟩
   ·rw[key_rl] at h;exact SeqAt.EqAt.str_int x t j u _ _ _ _ h
   ·rw[key_rr] at h;exact wpAny_eqBool_str h
 «strs» := λk x t v h=>by
  rcases zao h with⟨i,u,rfl,e⟩|⟨y,u,rfl,e⟩
  ·exact nomatch e
  ·injection e with f _
   subst f;cases v<;>rfl
end L2
namespace L2
open PySem PySem.Spec PyProof.Rows
set_option genInjectivity true in
inductive V where
 |non|bl (b:Bool)|int (i:Int)|str (x:Str)|byt (b:Array UInt8)|flt (b:UInt64)|ref (a:Addr)|ty (n:String)
 deriving DecidableEq
def RelV:V->Value->Prop
 |.non,u=>u=Value.none
 |.bl b,u=>u=Value.bool b
 |.int i,u=>∃t,u=Value.int i t
 |.str x,u=>∃t,u=Value.str x t
 |.byt b,u=>∃t,u=Value.bytes b t
 |.flt b,u=>∃t,u=Value.float b t
 |.ref a,u=>u=Value.ref a
 |.ty n,u=>u=Value.type n
abbrev Vals:List V->List Value->Prop:=Paired RelV
theorem Vals.length{d:List V}{e:List Value}(r:Vals d e):d.length=e.length:=Paired.length r
theorem Vals.get:∀{d:List V}{f:List Value}{i:Nat}{x:V},Vals d f->d[i]? = some x->∃u,f[i]? = some u/\RelV x u
 |_,_,_,_,.nil,e=>by simp at e
 |_,_,0,_,.cons r _,e=>by simp at e;subst e;exact⟨_,rfl,r⟩
 |_,_,i+1,x,.cons _ t,e=>by
  obtain⟨u,g,h⟩:=Vals.get (i:=i) (x:=x) t (by simpa using e)
  exact⟨u,by simpa using g,h⟩
theorem Vals.set{x:V}{u:Value}(r:RelV x u):∀{d:List V}{e:List Value}(i:Nat),Vals d e->Vals (d.set i x) (e.set i u)
 |_,_,_,.nil=>.nil
 |_,_,0,.cons _ t=>.cons r t
 |_,_,i+1,.cons q t=>.cons q (Vals.set r i t)
theorem Vals.append:∀{d e:List V}{f g:List Value},Vals d f->Vals e g->Vals (d++e) (f++g)
 |_,_,_,_,.nil,s=>s
 |_,_,_,_,.cons r t,s=>.cons r (Vals.append t s)
theorem Vals.take:∀{d:List V}{e:List Value}(n:Nat),Vals d e->Vals (d.take n) (e.take n)
 |_,_,0,_=>.nil
 |_,_,_+1,.nil=>.nil
 |_,_,n+1,.cons r t=>.cons r (Vals.take n t)
theorem Vals.drop:∀{d:List V}{e:List Value}(n:Nat),Vals d e->Vals (d.drop n) (e.drop n)
 |_,_,0,r=>r
 |_,_,_+1,.nil=>.nil
 |_,_,n+1,.cons _ t=>Vals.drop n t
def RelO:Option V->Option Value->Prop
 |some v,some u=>RelV v u
 |none,none=>True
 |_,_=>False
def KV{d:Type}:List (d×V)->List (d×Value)->Prop:=Paired λ(p:d×V) (q:d×Value)=>p.1=q.1/\RelV p.2 q.2
def kV:Key->V
 |.inl i=>.int i
 |.inr x=>.str x
inductive HO where
  |lst(xs:List V)
  |tup(xs:List V)
  |dK(kvs:List (Key×V))|dT(kvs:List (List Key×V))
  |set(S:Int->Bool)(n:Nat)
  |ins(C dx:Addr)(fs:List (Str×V))
  |own(x:Addr)
  |xd(fs:List (Str×V))
  |met(f x:Addr)
  |rng(lo hi:Int)
  |frz(o:Obj)(u:HO)
  |tbl(ps:Array Value)
  |ext(φ:Heap->Prop)
abbrev Hp:=Addr->Option HO
def upd(H:Hp)(a:Addr)(o:HO):Hp:=λb=>if b=a then some o else H b
def Bs{H:Hp}{a:Addr}{o:HO}:upd H a o a=some o:=by unfold upd;rw[if_pos rfl]
def Bo{H:Hp}{a b:Addr}{o:HO}(h:b≠a):upd H a o b=H b:=by unfold upd;rw[if_neg h]
def zku{H:Hp}{a:Addr}{o u:HO}:upd (upd H a o) a u=upd H a u:=by
 funext b;unfold upd;split<;>rfl
def zcr{H:Hp}{a b:Addr}{o:HO}(h:H a=some o)(d:H b=none):a≠b:=by
 intro e;subst e;rw[h] at d;cases d
section
variable(P:Program)(w:World)
def ObjOk(H:Hp)(h:Heap)(a:Addr):HO->Prop
 |.lst g=>g.length<=sizeLine/\∃(d:List Value) (n:Nat),Vals g d/\h.get? a=some {cls:=.type "list",data:=.seq d.toArray n}
 |.tup g=>g.length<=sizeLine/\∃d:List Value,Vals g d/\IsTup h a d.toArray
 |.dK e=>e.length<=sizeLine/\(a == sysModules)=false/\∃r,KV e r/\h.DictOf (zyd P w) a r
 |.dT e=>e.length<=sizeLine/\(a == sysModules)=false/\∃g:List (List Key×Addr×Value),
   Paired (λ(p:List Key×V) (q:List Key×Addr×Value)=>p.1=q.1/\H q.2.1=some (.tup (p.1.map kV))/\RelV p.2 q.2.2) e g /\
   ∃o s B,h.get? a=some o/\o.ExactDict/\o.data=.dict s B/\s.toList=g.map (entryOfKey (tupleKind (zyd P w)))/\(g.map (·.1)).Nodup
 |.set S n=>h.SetOf (intKind P w) a S n
 |.ins C l j=>H l=some (.own a)/\j.length<=1000/\l≠a/\h.get? a=some (PySem.W.instObj C l) /\
   ∃i,h.Ns1 l i/\(∀f,RelO (j.lookup f) (i f))/\PySem.Within i (j.map (·.1))
 |.own _=>∃o,h.get? a=some o
 |.xd j=>∃i,h.Ns1 a i/\∀f,RelO (j.lookup f) (i f)
 |.rng lo D=>∃t u v,h.get? a=some {cls:=.type "range",data:=.fields #[.int lo t,.int D u,.int 1 v]}
 |.frz o u=>h.get? a=some o/\ObjOk H h a u
 |.tbl ps=>h.get? a=some {cls:=.none,data:=.fields ps}
 |.met f x=>h.get? a=some (PySem.W.methodObj (.ref f) (.ref x))
 |.ext m=>m h/\(∃o,h.get? a=some o)/\∀z A:Heap,m z->(∀o,z.get? a=some o->A.get? a=some o)->m A
def HOk(H:Hp)(h:Heap):Prop:=∀a o,H a=some o->ObjOk P w H h a o
end
section
variable{P:Program}{w:World}{H H':Hp}{h h':Heap}{a:Addr}{o:HO}
theorem ObjOk.lt(x:ObjOk P w H h a o):a<h.objs.size:=by
 cases o with
 |lst g=>obtain⟨_,_,_,_,e⟩:=x;exact Zn e
 |tup g=>obtain⟨_,_,_,p⟩:=x;exact p.lt
 |dK d=>obtain⟨_,_,_,_,o,_,_,e,_⟩:=x;exact Zn e
 |dT d=>obtain⟨_,_,_,_,o,_,_,e,_⟩:=x;exact Zn e
 |set S n=>obtain⟨o,_,_,_,e,_⟩:=x;exact Zn e
 |ins C j i=>obtain⟨_,_,_,e,_⟩:=x;exact Zn e
 |own y=>obtain⟨_,e⟩:=x;exact Zn e
 |xd i=>obtain⟨_,⟨_,_,_,e,_⟩,_⟩:=x;exact Zn e
 |rng lo l=>obtain⟨_,_,_,e⟩:=x;exact Zn e
 |frz m u=>obtain⟨e,_⟩:=x;exact Zn e
 |tbl ps=>exact Zn (show h.get? a=some _ from x)
 |met f y=>exact Zn (show h.get? a=some _ from x)
 |ext q=>obtain⟨_,⟨_,e⟩,_⟩:=x;exact Zn e
def Paired.mapP{g i:Type}{F G:g->i->Prop}:∀{d:List g}{e:List i},Paired F d e->(∀a b,F a b->G a b)->Paired G d e:=λh f=>by
 induction h with
 |nil=>exact .nil
 |cons r t j=>exact .cons (f _ _ r) j
def ObjOk.stay(x:ObjOk P w H h a o)(k:∀b u,(b=a\/H b=some (.own a))->h.get? b=some u->h'.get? b=some u)
 (D:∀b,H b=some (.own a)->H' b=some (.own a))(E:∀b m,H b=some (.tup m)->H' b=some (.tup m)):ObjOk P w H' h' a o:=by
 induction o with
 |lst m=>obtain⟨z,l,n,r,e⟩:=x;exact⟨z,l,n,r,k _ _ (.inl rfl) e⟩
 |tup m=>obtain⟨z,l,r,g,e,c⟩:=x;exact⟨z,l,r,g,k _ _ (.inl rfl) e,c⟩
 |dK s=>obtain⟨z,y,F,r,g,i,j,e,c⟩:=x;exact⟨z,y,F,r,g,i,j,k _ _ (.inl rfl) e,c⟩
 |dT s=>
  obtain⟨z,y,m,r,g,i,j,e,c⟩:=x
  exact⟨z,y,m,Paired.mapP r λp q z=>⟨z.1,E _ _ z.2.1,z.2.2⟩,g,i,j,k _ _ (.inl rfl) e,c⟩
 |set S n=>obtain⟨g,i,j,t,e,c⟩:=x;exact⟨g,i,j,t,k _ _ (.inl rfl) e,c⟩
 |ins C L G=>
  obtain⟨d,z,I,e,A,⟨B,i,j,J,c⟩,r⟩:=x
  exact⟨D _ d,z,I,k _ _ (.inl rfl) e,A,⟨B,i,j,k _ _ (.inr d) J,c⟩,r⟩
 |own y=>obtain⟨g,e⟩:=x;exact⟨g,k _ _ (.inl rfl) e⟩
 |xd G=>obtain⟨A,⟨B,i,j,e,c⟩,r⟩:=x;exact⟨A,⟨B,i,j,k _ _ (.inl rfl) e,c⟩,r⟩
 |rng lo M=>obtain⟨t,u,v,e⟩:=x;exact⟨t,u,v,k _ _ (.inl rfl) e⟩
 |frz g u K=>obtain⟨e,q⟩:=x;exact⟨k _ _ (.inl rfl) e,K q⟩
 |tbl ps=>
  have e:h.get? a=some {cls:=.none,data:=.fields ps}:=x;show h'.get? a=some {cls:=.none,data:=.fields ps};exact k a _ (.inl rfl) e
 |met f y=>
  have e:h.get? a=some (PySem.W.methodObj (.ref f) (.ref y)):=x;show h'.get? a=some (PySem.W.methodObj (.ref f) (.ref y));exact k a _ (.inl rfl) e
 |ext N=>obtain⟨p,⟨o,e⟩,st⟩:=x;exact⟨st _ _ p λo q=>k _ _ (.inl rfl) q,⟨o,k _ _ (.inl rfl) e⟩,st⟩
theorem HOk.lt(x:HOk P w H h)(e:H a=some o):a<h.objs.size:=(x a o e).lt
def HOk.fresh(x:HOk P w H h)(e:h.objs.size<=a):H a=none:=by
 cases q:H a with
 |none=>rfl
 |some u=>exact absurd (Ze (x.lt q) e) (Wt _)
def HOk.kept(x:HOk P w H h)(k:∀b u,h.get? b=some u->h'.get? b=some u):HOk P w H h':=λa o e=>
 (x a o e).stay (λb u _ q=>k b u q) (λ_ q=>q) λ_ _ q=>q
def HOk.laid(x:HOk P w H h)(k:∀b u,h.get? b=some u->h'.get? b=some u)(i:h.objs.size<=a)(d:ObjOk P w (upd H a o) h' a o):HOk P w (upd H a o) h':=λb u e=>by
 have f:=x.fresh i;by_cases g:b=a
 ·subst g;rw[Bs] at e;cases e;exact d
 ·rw[Bo g] at e;exact(x b u e).stay (λc v _ q=>k c v q) (λc q=>by rw[Bo (zcr q f)];exact q) λc j q=>by rw[Bo (zcr q f)];exact q
end
def Rd(H:Hp)(a:Addr)(u:HO):Prop:=H a=some u\/∃o,H a=some (.frz o u)
def Rd.ok{P:Program}{w:World}{H:Hp}{h:Heap}{a:Addr}{u:HO}(r:Rd H a u)(x:HOk P w H h):ObjOk P w H h a u:=by
 rcases r with r|⟨o,r⟩
 ·exact x a u r
 ·obtain⟨_,q⟩:=x a _ r
  exact q
def Mut:Option HO->Prop
 |some (.lst _)=>True
 |some (.dK _)=>True
 |some (.dT _)=>True
 |some (.set _ _)=>True
 |some (.ins _ _ _)=>True
 |some (.ext _)=>True
 |_=>False
section
variable{P:Program}{w:World}{H:Hp}{h h':Heap}{x e:Addr}{o':HO}
def HOk.write(ok:HOk P w H h)(i:Mut (H x))(p:e=x\/H e=some (.own x))(k:∀b u,b≠e->h.get? b=some u->h'.get? b=some u)(n:∃u,h'.get? e=some u)
 (o:ObjOk P w (upd H x o') h' x o'):HOk P w (upd H x o') h':=λb u q=>by
 have f:∀c y,H c=some (.own y)->c≠x:=λc y r z=>by subst z;rw[r] at i;exact i
 have g:∀c j,H c=some (.tup j)->c≠x:=λc j r z=>by subst z;rw[r] at i;exact i
 by_cases l:b=x
 ·subst l;rw[Bs] at q;cases q;exact o
 ·rw[Bo l] at q;by_cases d:b=e
  ·have s:H b=some (.own x):=by
    rcases p with z|z
    ·exact absurd (d.trans z) l
    ·rw[d];exact z
   rw[q] at s;cases s;obtain⟨v,t⟩:=n
   exact⟨v,by rw[d];exact t⟩
  ·refine(ok b u q).stay (λc v m r=>k c v ?_ r) (λc r=>by rw[Bo (f c b r)];exact r) λc j r=>by rw[Bo (g c j r)];exact r
   rcases m with rfl|m
   ·exact d
   ·rintro rfl
    rcases p with z|z
    ·exact f c b m z
    ·rw[m] at z;cases z;exact l rfl
end
structure Un(fs ex:List Addr)(H H':Hp)(h h':Heap):Prop where
 keep:∀b o,h.get? b=some o->H b=none->b∉fs->b∉ex->h'.get? b=some o
 slot:∀b o,h.get? b=some o->H b=none->b∈fs->b∉ex->∃sl,h'.get? b=some {o with slots:=sl}
 free:∀b o,h.get? b=some o->H b=none->b∉ex->H' b=none
 there:∀b o,h.get? b=some o->b∉ex->∃o',h'.get? b=some o'
 tups:∀b xs,H b=some (.tup xs)->H' b=some (.tup xs)
 frzs:∀b o u,H b=some (.frz o u)->H' b=some (.frz o u)
 tbls:∀b ps,H b=some (.tbl ps)->∃more,H' b=some (.tbl (ps++more))
section
variable{fs fs' ex ex':List Addr}{H H1 H2:Hp}{h h1 h2 h':Heap}{a x e:Addr}{o:HO}
def Un.any(u:Un fs ex H H1 h h1){b:Addr}{d:Obj}(q:h.get? b=some d)(n:H b=none)(e:b∉ex):∃g,h1.get? b=some {d with slots:=g}:=by
 by_cases f:b∈fs
 ·exact u.slot b d q n f e
 ·exact⟨d.slots,u.keep b d q n f e⟩
def Un.kept(k:∀b u,h.get? b=some u->h'.get? b=some u):Un fs ex H H h h':=
 ⟨λb d q _ _ _=>k b d q,λb d q _ _ _=>⟨d.slots,k b d q⟩,λ_ _ _ n _=>n,λb d q _=>⟨d,k b d q⟩,λ_ _ q=>q,λ_ _ _ q=>q,λ_ e q=>⟨#[],by rw[q];simp⟩⟩
def Un.refl:Un fs ex H H h h:=Un.kept λ_ _ q=>q
def Un.laid(k:∀b u,h.get? b=some u->h'.get? b=some u)(e:h.objs.size<=a)(d:H a=none):Un fs ex H (upd H a o) h h' where
 keep:=λb u q _ _ _=>k b u q
 slot:=λb u q _ _ _=>⟨u.slots,k b u q⟩
 free:=λb u q n _=>by rw[Bo (Yh (Ze (Zn q) e))];exact n
 there:=λb u q _=>⟨u,k b u q⟩
 tups:=λb f q=>by rw[Bo (zcr q d)];exact q
 frzs:=λb u f q=>by rw[Bo (zcr q d)];exact q
 tbls:=λb g q=>⟨#[],by rw[Bo (zcr q d),q];simp⟩
def Un.write(f:Mut (H x))(m:e=x\/H e=some (.own x))(k:∀b u,b≠e->h.get? b=some u->h'.get? b=some u)(g:∃u,h'.get? e=some u):Un fs ex H (upd H x o) h h':=by
 have j:∀b,H b=none->b≠x:=λb n z=>by subst z;rw[n] at f;exact f
 have l:∀b,H b=none->b≠e:=λb n z=>by
  subst z;rcases m with r|r
  ·exact j b n r
  ·rw[n] at r;cases r
 have i:∀b u,H b=some u -> ¬Mut (some u)->b≠x:=λb u q p z=>by subst z;rw[q] at f;exact p f
 refine⟨λb u q n _ _=>k b u (l b n) q,λb u q n _ _=>⟨u.slots,k b u (l b n) q⟩,λb u q n _=>by rw[Bo (j b n)];exact n,λb u q _=>?_,
  λb s q=>by rw[Bo (i b _ q λz=>z)];exact q,λb u s q=>by rw[Bo (i b _ q λz=>z)];exact q,λb t q=>⟨#[],by rw[Bo (i b _ q λz=>z),q];simp⟩⟩
 by_cases d:b=e
 ·subst d;exact g
 ·exact⟨u,k b u d q⟩
end
def trk(h:Heap)(H:Hp):List Addr:=(List.range h.objs.size).filter λa=>(H a).isSome
def hidT(h:Heap)(H:Hp):Heap:=PySem.W.hideAll h (trk h H)
def zyy(h:Heap)(H:Hp):(hidT h H).objs.size=h.objs.size:=PySem.W.hideAll_size _ _
def yet{h:Heap}{H:Hp}{b:Addr}{o:Obj}(e:h.get? b=some o)(n:H b=none):(hidT h H).get? b=some o:=
 PySem.W.hideAll_get _ e λd=>by
  have q:(H b).isSome=true:=(Vb.mp d).2;rw[n] at q;simp at q
def ylk{h:Heap}{H:Hp}{b:Addr}{o:Obj}(e:(hidT h H).get? b=some o):h.get? b=some o/\H b=none:=by
 have d:h.get? b=some o:=PySem.W.of_hideAll (trk h H) e;refine⟨d,?_⟩
 cases q:H b with
 |none=>rfl
 |some x=>
  have f:b∈trk h H:=Vb.mpr ⟨Wj.mpr (Zn d),by simp[q]⟩;have z:(hidT h H).get? b=none:=PySem.W.hideAll_none (trk h H) f;rw[z] at e;cases e
end L2
namespace L2
open PySem PySem.Spec PyProof.Rows
structure Mod(K:vE)(mg:Str->Option Value)(base:Heap):Prop where
 kin:K.In base
 glob:base.Ns mainGlobals mg
 blt:∃mb,base.Ns builtinsNs mb/\∀x:Str,x ≠ "__name__" -> mb x=bootBuiltins x
 nolimit:base.NoLimit
structure Cx where
 prog:Program
 w:World
 K:vE
 mg:Str->Option Value
 base:Heap
 A:Around
 N:List Str
 s₀:Shared
 H₀:Hp
 env:Env
 outer:List Env
 stack:List Env
 ex:List Addr
 fn:Str->Bool
 calm:Bool
 pn:List (Addr×Obj)
 xe:Value->Shared->Prop
def frs(l:List Env):List Addr:=l.filterMap (·.frame)
abbrev Cx.fs(X:Cx):List Addr:=frs X.outer
def Vis(sc:Scope)(x:Str):Prop:=sc.names.lookup x=some .local\/sc.names.lookup x=some .cell\/sc.names.lookup x=some .free
def Loc(sc:Scope)(x:Str):Prop:=sc.names.lookup x=some .local\/sc.names.lookup x=some .cell
def Look(env:Env)(h:Heap)(m:Str->Option Value)(x:Str)(u:Value):Prop:=
 (env.kindOf x=some .local/\m x=some u)\/((env.kindOf x=some .cell\/env.kindOf x=some .free)/\∃c,env.cells.lookup x=some c/\h.IsCell c (some u))
structure Cx.Ok(X:Cx):Prop where
 mod:Mod X.K X.mg X.base
 kind:X.env.scope.kind=.function
 glob:X.env.globals=mainGlobals
 blt:X.env.builtins=builtinsNs
 above:X.s₀.heap.objs.size<=X.env.locals
 inj:∀x y c,X.env.cells.lookup x=some c->X.env.cells.lookup y=some c->x=y
 has:∀x,(X.env.kindOf x=some .cell\/X.env.kindOf x=some .free)->∃c,X.env.cells.lookup x=some c
 cab:∀x c,X.fn x=true->X.env.cells.lookup x=some c->X.s₀.heap.objs.size<=c
 hd:X.calm=true->X.A.handled=none
 frames:X.A.frames=some X.stack
 stk:X.stack=X.outer\/(X.stack=X.env::X.outer/\X.env.frame=some X.env.locals)
 exf:∀b∈X.ex,b≠X.env.locals/\∀x c,X.env.cells.lookup x=some c->c≠b
 bs:∀b o,X.base.get? b=some o->X.s₀.heap.get? b=some o/\X.H₀ b=none
 bsz:X.base.objs.size<=X.s₀.heap.objs.size
 noex:∀b o,X.base.get? b=some o->b∉X.ex
 exfs:∀b∈X.ex,b∉X.fs
 funs:X.s₀.heap.FunFrames X.base X.outer
 frf:∀b∈X.fs,X.H₀ b=none
structure Inv(X:Cx)(pins:List (Addr×Obj))(σ:List (Option V))(H:Hp)(s:Shared):Prop where
 ok:X.Ok
 os:s.os=X.s₀.os
 bare:AllBare s.gens
 base:Un X.fs X.ex X.H₀ H X.s₀.heap s.heap
 loc:∃m,s.heap.Ns X.env.locals m/\∀(i:Nat) (x:Str) (v:V),X.N[i]? = some x->σ[i]? = some (some v)->Vis X.env.scope x->∃u,RelV v u/\Look X.env s.heap m x u
 cell:∀x c,X.env.cells.lookup x=some c->∃v,s.heap.IsCell c v
 free:H X.env.locals=none
 freeC:∀x c,X.env.cells.lookup x=some c->H c=none
 pin:∀p∈X.pn++pins,s.heap.get? p.1=some p.2/\H p.1=none/\p.1≠X.env.locals/\p.1∉X.fs/\∀v,p.2.data ≠ .cell v
 hok:HOk X.prog X.w H s.heap
 len:σ.length=X.N.length
section
variable{X:Cx}{pins:List (Addr×Obj)}{σ:List (Option V)}{H H':Hp}{s:Shared}{h':Heap}
def Cx.Ok.nofr(ok:X.Ok){b:Addr}{o:Obj}(e:X.base.get? b=some o):b∉X.fs:=λd=>by
 have:=(ok.funs.mem d).1
 rw[e] at this;cases this
theorem Inv.bs(I:Inv X pins σ H s):∀b o,X.base.get? b=some o->s.heap.get? b=some o/\H b=none:=λb o e=>
 ⟨I.base.keep b o (I.ok.bs b o e).1 (I.ok.bs b o e).2 (I.ok.nofr e) (I.ok.noex b o e),I.base.free b o (I.ok.bs b o e).1 (I.ok.bs b o e).2 (I.ok.noex b o e)⟩
def Inv.bk(I:Inv X pins σ H s):∀b o,X.base.get? b=some o->s.heap.get? b=some o:=λb o e=>(I.bs b o e).1
theorem Inv.mod(I:Inv X pins σ H s):Mod X.K X.mg X.base:=I.ok.mod
def Inv.kIn(I:Inv X pins σ H s):X.K.In s.heap:=I.ok.mod.kin.keeps I.bk
theorem Inv.lt(I:Inv X pins σ H s):X.env.locals<s.heap.objs.size:=let ⟨_,d,_⟩:=I.loc;d.lt
def Inv.sz(I:Inv X pins σ H s):X.s₀.heap.objs.size<=s.heap.objs.size:=Wg I.ok.above (J0 I.lt)
def Inv.nofs(I:Inv X pins σ H s){a:Addr}(h:s.heap.objs.size<=a):a∉X.fs:=λd=>by
 obtain⟨_,o,e,_⟩:=I.ok.funs.mem d
 exact absurd (Ze (Zn e) (Wg I.sz h)) (Wt _)
def Inv.cne(I:Inv X pins σ H s):∀x c,X.env.cells.lookup x=some c->c≠X.env.locals:=λx c e z=>by
 obtain⟨v,o,g,h⟩:=I.cell x c e
 obtain⟨m,⟨i,j,l,d,f,_⟩,_⟩:=I.loc
 rw[z,d] at g;cases g;rw[f] at h;cases h
theorem Inv.funs(I:Inv X pins σ H s):s.heap.FunFrames X.base X.outer:=by
 have all:∀(l:List Env),(∀b∈frs l,b∈X.fs)->X.s₀.heap.FunFrames X.base l->s.heap.FunFrames X.base l:=by
  intro l;induction l with
  |nil=>intro _ _;trivial
  |cons i r j=>
   intro h m;obtain⟨n,⟨L,o,d,p,q,t⟩,u⟩:=m
   have f:L∈X.fs:=h L (by unfold frs;rw[Ja,d];exact Wx);obtain⟨v,e⟩:=I.base.slot L o q (I.ok.frf L f) f λz=>I.ok.exfs L z f
   exact⟨n,⟨L,_,d,p,e,t⟩,j (λb g=>h b (by unfold frs;rw[Ja,d];exact Yw _ g)) u⟩
 exact all X.outer (λ_ g=>g) I.ok.funs
theorem Inv.stack(I:Inv X pins σ H s):s.heap.FunFrames X.base X.stack:=by
 rcases I.ok.stk with e|⟨e,d⟩
 ·rw[e];exact I.funs
 ·rw[e];obtain⟨m,f,_⟩:=I.loc
  refine .cons (by rw[I.ok.kind];decide) d f ?_ I.funs;exact Ua (Wg I.ok.bsz I.ok.above)
def Inv.stkSub(I:Inv X pins σ H s):∀b∈frs X.stack,b∈X.env.locals::X.fs:=λb d=>by
 rcases I.ok.stk with e|⟨e,f⟩
 ·rw[e] at d;exact Yw _ d
 ·rw[e] at d;unfold frs at d;rw[Ja,f] at d;exact d
def Inv.stkFree(I:Inv X pins σ H s):∀b∈frs X.stack,H b=none:=λb hb=>by
 rcases Zh.mp (I.stkSub b hb) with e|hb
 ·rw[e];exact I.free
 ·obtain⟨_,o,d,_⟩:=I.ok.funs.mem hb
  exact I.base.free b o d (I.ok.frf b hb) λz=>I.ok.exfs b z hb
def Inv.step{g':Array GenState}{Y:Nat}{d':Drawn}{ch:List Addr}(I:Inv X pins σ H s)
 (g:∀b∈ch,(b∈X.ex\/X.s₀.heap.objs.size<=b)/\b≠X.env.locals/\(∀x c,X.env.cells.lookup x=some c->c≠b)/\∀p∈X.pn++pins,p.1≠b)
 (h:∀b o,b≠X.env.locals->b∉X.fs->b∉ch->s.heap.get? b=some o->H b=none->h'.get? b=some o)
 (slot:∀b o,b≠X.env.locals->b∈X.fs->b∉ch->s.heap.get? b=some o->H b=none->∃Q,h'.get? b=some {o with slots:=Q})(free:∀b o,b∉ch->s.heap.get? b=some o->H b=none->H' b=none)
 (D:∀b o,b∉ch->s.heap.get? b=some o->∃G,h'.get? b=some G)
 (J:∀b C,H b=some (.tup C)->H' b=some (.tup C))(K:∀b o u,H b=some (.frz o u)->H' b=some (.frz o u))(L:∀b P,H b=some (.tbl P)->∃M,H' b=some (.tbl (P++M)))
 (Z:∀m,s.heap.Ns X.env.locals m->h'.Ns X.env.locals m)(hok:HOk X.prog X.w H' h')(hg:AllBare g'):
  Inv X pins σ H' {s with heap:=h',gens:=g',drawn:=d',toks:=Y}:=by
 have N:∀b o,X.s₀.heap.get? b=some o->b≠X.env.locals:=λb o e=>Yh (Ze (Zn e) I.ok.above)
 have A:∀b o,X.s₀.heap.get? b=some o->b∉X.ex->b∉ch:=λb o e f E=>by
  rcases(g b E).1 with z|z
  ·exact f z
  ·exact absurd (Ze (Zn e) z) (Wt _)
 have j:∀x c,X.env.cells.lookup x=some c->∀v,s.heap.IsCell c v->h'.IsCell c v:=λx c e v ⟨o,F,R⟩=>by
  have t:c∉ch:=λz=>(g c z).2.2.1 x c e rfl
  by_cases T:c∈X.fs
  ·obtain⟨Q,q⟩:=slot c o (I.cne x c e) T t F (I.freeC x c e)
   exact⟨_,q,R⟩
  ·exact⟨o,h c o (I.cne x c e) T t F (I.freeC x c e),R⟩
 refine⟨I.ok,I.os,hg,⟨λb o e n E f=>?_,λb o e n E f=>?_,λb o e n f=>?_,λb o e f=>?_,λb C e=>J b C (I.base.tups b C e),λb o C e=>K b o C (I.base.frzs b o C e),λb P e=>?_⟩,?_,λx c e=>?_,?_,λx c e=>?_,λp U=>?_,hok,I.len⟩
 ·exact h b o (N b o e) E (A b o e f) (I.base.keep b o e n E f) (I.base.free b o e n f)
 ·obtain⟨Q,B⟩:=I.base.slot b o e n E f
  obtain⟨S,O⟩:=slot b _ (N b o e) E (A b o e f) B (I.base.free b o e n f)
  exact⟨S,O⟩
 ·obtain⟨G,B⟩:=I.base.there b o e f
  exact free b G (A b o e f) B (I.base.free b o e n f)
 ·obtain⟨G,B⟩:=I.base.there b o e f
  exact D b G (A b o e f) B
 ·obtain⟨m1,B⟩:=I.base.tbls b P e
  obtain⟨m2,O⟩:=L b _ B
  exact⟨m1++m2,by rw[O,Array.append_assoc]⟩
 ·obtain⟨m,hn,hl⟩:=I.loc
  refine⟨m,Z m hn,λi x v B O e3=>?_⟩
  obtain⟨u,r,l⟩:=hl i x v B O e3
  refine⟨u,r,?_⟩
  rcases l with l|⟨k,c,e,z⟩
  ·exact .inl l
  ·exact .inr ⟨k,c,e,j x c e _ z⟩
 ·obtain⟨v,z⟩:=I.cell x c e
  exact⟨v,j x c e v z⟩
 ·obtain⟨m,⟨o,_,_,F,_⟩,_⟩:=I.loc
  exact free _ o (λz=>(g _ z).2.1 rfl) F I.free
 ·obtain⟨v,o,F,R⟩:=I.cell x c e
  exact free c o (λz=>(g c z).2.2.1 x c e rfl) F (I.freeC x c e)
 ·obtain⟨e,n,V,W,d⟩:=I.pin p U
  have t:p.1∉ch:=λz=>(g p.1 z).2.2.2 p U rfl
  exact⟨h p.1 p.2 V W t e n,free p.1 p.2 t e n,V,W,d⟩
def Inv.un{t':Nat}(I:Inv X pins σ H s)(u:Un X.fs [] H H' s.heap h')(hok:HOk X.prog X.w H' h'):Inv X pins σ H' {s with heap:=h',toks:=t'}:=by
 obtain⟨m,⟨o,q,t,i,r⟩,_⟩:=id I.loc
 obtain⟨v,j⟩:=u.any i I.free vC
 exact I.step (g':=s.gens) (d':=s.drawn) (ch:=[]) (λ_ z=>nomatch z) (λb o _ f _ e n=>u.keep b o e n f vC) (λb o _ f _ e n=>u.slot b o e n f vC) (λb o _ e n=>u.free b o e n vC) (λb o _ e=>u.there b o e vC) u.tups u.frzs u.tbls (λA l=>by
  obtain⟨B,g,h,d,p⟩:=l
  rw[i] at d;cases d;exact⟨_,g,h,j,p⟩) hok I.bare
def Inv.call{g':Array GenState}{t':Nat}{d':Drawn}{ch:List Addr}(I:Inv X pins σ H s)(u:Un (frs X.stack) ch H H' s.heap h')(hok:HOk X.prog X.w H' h')(q:AllBare g')
 (f:∀b∈ch,(b∈X.ex\/X.s₀.heap.objs.size<=b)/\b≠X.env.locals/\(∀x c,X.env.cells.lookup x=some c->c≠b)/\∀p∈X.pn++pins,p.1≠b):
  Inv X pins σ H' {s with heap:=h',gens:=g',drawn:=d',toks:=t'}:=by
 obtain⟨m,⟨o,B,C,l,r⟩,_⟩:=id I.loc
 obtain⟨D,h⟩:=u.any l I.free λz=>(f _ z).2.1 rfl
 exact I.step (ch:=ch) f (λb o h t d e n=>u.keep b o e n (λz=>(Zh.mp (I.stkSub b z)).elim h t) d) (λb o _ _ d e n=>u.any e n d) (λb o d e n=>u.free b o e n d) (λb o d e=>u.there b o e d) u.tups u.frzs u.tbls (λE v=>by
  obtain⟨F,i,j,g,A⟩:=v
  rw[l] at g;cases g;exact⟨_,i,j,h,A⟩) hok q
def Inv.turned{t':Nat}{d:Addr}(I:Inv X pins σ H s)(k:∀b o,b≠d->s.heap.get? b=some o->h'.get? b=some o)(i:H d=none)(h:d≠X.env.locals)
 (j:d∈X.ex\/X.s₀.heap.objs.size<=d)(l:∀x c,X.env.cells.lookup x=some c->c≠d)(t:∀p∈X.pn++pins,p.1≠d):Inv X pins σ H {s with heap:=h',toks:=t'}:=by
 have g:∀b u,H b=some u->b≠d:=λb u e z=>by rw[z,i] at e;cases e
 refine I.step (g':=s.gens) (d':=s.drawn) (ch:=[d]) (λb w=>?_) (λb o _ _ f e _=>k b o (λz=>f (by simp[z])) e) (λb o _ _ f e _=>⟨o.slots,k b o (λz=>f (by simp[z])) e⟩) (λ_ _ _ _ n=>n)
  (λb o f e=>⟨o,k b o (λz=>f (by simp[z])) e⟩) (λ_ _ e=>e) (λ_ _ _ e=>e) (λb E e=>⟨#[],by rw[e];simp⟩) (λm A=>?_) (λb u e=>?_) I.bare
 ·have e:b=d:=by simpa using w
  subst e;exact⟨j,h,l,t⟩
 ·obtain⟨o,B,C,D,r⟩:=A
  exact⟨o,B,C,k _ o (W5 h) D,r⟩
 ·refine(I.hok b u e).stay (λc v f q=>k c v ?_ q) (λ_ q=>q) λ_ _ q=>q
  rcases f with z|z
  ·rw[z];exact g b u e
  ·exact g c _ z
def Inv.tok(I:Inv X pins σ H s)(t:Nat):Inv X pins σ H {s with toks:=t}:=I.un (h':=s.heap) (t':=t) Un.refl I.hok
theorem Inv.kept{t':Nat}(I:Inv X pins σ H s)(k:∀b u,s.heap.get? b=some u->h'.get? b=some u):Inv X pins σ H {s with heap:=h',toks:=t'}:=I.un (Un.kept k) (I.hok.kept k)
theorem Inv.laid{a:Addr}{o:HO}{t':Nat}(I:Inv X pins σ H s)(k:∀b u,s.heap.get? b=some u->h'.get? b=some u)(d:s.heap.objs.size<=a)(e:ObjOk X.prog X.w (upd H a o) h' a o):
  Inv X pins σ (upd H a o) {s with heap:=h',toks:=t'}:=I.un (Un.laid k d (I.hok.fresh d)) (I.hok.laid k d e)
theorem Inv.write{x e:Addr}{o:HO}{i:Nat}(I:Inv X pins σ H s)(g:Mut (H x))(h:e=x\/H e=some (.own x))(k:∀b u,b≠e->s.heap.get? b=some u->h'.get? b=some u)(d:∃u,h'.get? e=some u)
 (f:ObjOk X.prog X.w (upd H x o) h' x o):Inv X pins σ (upd H x o) {s with heap:=h',toks:=i}:=I.un (Un.write g h k d) (I.hok.write g h k d f)
def Inv.pins_of{d:List (Addr×Obj)}(I:Inv X pins σ H s)(h:∀p∈d,s.heap.get? p.1=some p.2/\H p.1=none/\p.1≠X.env.locals/\p.1∉X.fs/\∀v,p.2.data ≠ .cell v):Inv X d σ H s:=
 ⟨I.ok,I.os,I.bare,I.base,I.loc,I.cell,I.free,I.freeC,λp e=>(Y0.mp e).elim (λz=>I.pin p (Q5 _ z)) (h p),I.hok,I.len⟩
def zsh{N:List Str}(d:N.Nodup){i j:Nat}{x:Str}(a:N[i]? = some x)(b:N[j]? = some x):i=j:=by
 obtain⟨g,e⟩:=Zo.mp a
 obtain⟨h,f⟩:=Zo.mp b
 exact(Kg d).mp (e.trans f.symm)
def znc{M:Model}{A:Around}{E:Value->Shared->Prop}{i:Nat}{x:Str}{v:V}{u:Value}{Q:Unit->Shared->Prop}(I:Inv X pins σ H s)(hN:X.N.Nodup)(P:X.N[i]? = some x)(B:Loc X.env.scope x)(r:RelV v u)
 (h:∀s',Inv X pins (σ.set i (some v)) H s'->(∃a,Heap.SameBut a s.heap s'.heap/\(a=X.env.locals\/X.env.cells.lookup x=some a))->Q () s')(hf:X.fn x=true\/X.env.scope.names.lookup x=some .local:=by first|exact .inl rfl|exact .inr rfl|assumption):wpAny M A (storeName X.env x u) Q E s:=by
 obtain⟨m,hn,hl⟩:=id I.loc
 have R:(X.env.scope.kind == .class || (X.env.scope.kind == .module && X.env.locals != X.env.globals))=false:=by rw[I.ok.kind];rfl
 have F:i<σ.length:=by rw[I.len];exact(Zo.mp P).1
 have J:=I.cne;have g:∀{a:Addr}{h':Heap},(∃o,s.heap.get? a=some o/\H a=none)->Heap.SameBut a s.heap h'->HOk X.prog X.w H h':=λ{a h'} ha f b ob e=>by
  obtain⟨_,_,C⟩:=ha
  refine(I.hok b ob e).stay (λc Y t q=>(f.2 c ?_).trans q) (λ_ q=>q) λ_ _ q=>q
  rintro rfl
  rcases t with rfl|t
  ·rw[C] at e;cases e
  ·rw[C] at t;cases t
 rcases B with G|G
 ·refine wpAny_storeName_local G hn (λh' a0 f=>?_) R;obtain⟨oL,_,_,a1,_⟩:=id hn
  refine h _ ⟨I.ok,I.os,I.bare,⟨λb o e n K B=>?_,λb o e n K B=>?_,I.base.free,λb o e B=>?_,I.base.tups,I.base.frzs,I.base.tbls⟩,⟨_,a0,λj y v' l D e3=>?_⟩,λy c e=>?_,I.free,I.freeC,λp hp=>?_,g ⟨oL,a1,I.free⟩ f,by simpa using I.len⟩ ⟨_,f,.inl rfl⟩
  ·exact(f.2 b (Yh (Ze (Zn e) I.ok.above))).trans (I.base.keep b o e n K B)
  ·obtain⟨sl,l⟩:=I.base.slot b o e n K B
   exact⟨sl,(f.2 b (Yh (Ze (Zn e) I.ok.above))).trans l⟩
  ·obtain⟨o',l⟩:=I.base.there b o e B
   exact⟨o',(f.2 b (Yh (Ze (Zn e) I.ok.above))).trans l⟩
  ·by_cases L:j=i
   ·subst L;rw[P] at l;cases l;rw[Yv F] at D;cases D;exact⟨u,r,.inl ⟨G,by simp⟩⟩
   ·rw[Yj (W5 L)] at D;obtain⟨u',r',q⟩:=hl j y v' l D e3
    refine⟨u',r',?_⟩
    rcases q with⟨k,e⟩|⟨k,c,e,z⟩
    ·refine .inl ⟨k,?_⟩;have:y≠x:=λe=>L (zsh hN l (e ▸ P))
     simp[this,e]
    ·exact .inr ⟨k,c,e,z.sameBut f (J y c e)⟩
  ·obtain⟨Y,z⟩:=I.cell y c e
   exact⟨Y,z.sameBut f (J y c e)⟩
  ·obtain⟨e,n,Z,nf,d⟩:=I.pin p hp
   exact⟨(f.2 p.1 Z).trans e,n,Z,nf,d⟩
 ·have O:X.fn x=true:=by
   rcases hf with z|z
   ·exact z
   ·rw[z] at G;cases G
  obtain⟨c,t⟩:=I.ok.has x (.inl G)
  obtain⟨Y,z⟩:=I.cell x c t
  refine wpAny_storeName_cell I.ok.kind G t z (λh' S f=>?_);obtain⟨oc,T,U⟩:=id z
  refine h {s with heap:=h'} ⟨I.ok,I.os,I.bare,⟨λb o e n K B=>?_,λb o e n K B=>?_,I.base.free,λb o e B=>?_,I.base.tups,I.base.frzs,I.base.tbls⟩,⟨m,hn.sameBut f (W5 (J x c t)),λj y v' l D e3=>?_⟩,λy c' e=>?_,I.free,I.freeC,λp hp=>?_,g ⟨oc,T,I.freeC x c t⟩ f,by simpa using I.len⟩ ⟨c,f,.inr t⟩
  ·exact(f.2 b (Yh (Ze (Zn e) (I.ok.cab x c O t)))).trans (I.base.keep b o e n K B)
  ·obtain⟨sl,l⟩:=I.base.slot b o e n K B
   exact⟨sl,(f.2 b (Yh (Ze (Zn e) (I.ok.cab x c O t)))).trans l⟩
  ·obtain⟨o',l⟩:=I.base.there b o e B
   exact⟨o',(f.2 b (Yh (Ze (Zn e) (I.ok.cab x c O t)))).trans l⟩
  ·by_cases L:j=i
   ·subst L;rw[P] at l;cases l;rw[Yv F] at D;cases D;exact⟨u,r,.inr ⟨.inl G,c,t,S⟩⟩
   ·rw[Yj (W5 L)] at D;obtain⟨u',r',q⟩:=hl j y v' l D e3
    refine⟨u',r',?_⟩
    rcases q with q|⟨k,c',e,z'⟩
    ·exact .inl q
    ·refine .inr ⟨k,c',e,z'.sameBut f ?_⟩;rintro rfl
     exact L (zsh hN l (I.ok.inj _ _ _ e t ▸ P))
  ·by_cases W:c'=c
   ·subst W;exact⟨_,S⟩
   ·obtain⟨w2,z2⟩:=I.cell y c' e
    exact⟨w2,z2.sameBut f W⟩
  ·obtain⟨e,n,Z,nf,d⟩:=I.pin p hp
   refine⟨(f.2 p.1 ?_).trans e,n,Z,nf,d⟩
   intro q;rw[q,T] at e;have q':oc=p.2:=Z3 e;exact d Y (by rw[<-q'];exact U)
def zhh{M:Model}{A:Around}{E:Value->Shared->Prop}{i:Nat}{x:Str}{v:V}{u:Value}{Q:Unit->Shared->Prop}(I:Inv X pins σ H s)(e:X.N.Nodup)(f:X.N[i]? = some x)(g:Loc X.env.scope x)(r:RelV v u)
 (h:∀d,Inv X pins (σ.set i (some v)) H d->Q () d)(j:X.fn x=true\/X.env.scope.names.lookup x=some .local:=by first|exact .inl rfl|exact .inr rfl|assumption):wpAny M A (storeName X.env x u) Q E s:=
 znc I e f g r (λd l _=>h d l) j
def Inv.call'{d:Shared}{ch:List Addr}(I:Inv X pins σ H s)(g:d.os=s.os)(u:Un (frs X.stack) ch H H' s.heap d.heap)(hok:HOk X.prog X.w H' d.heap)(h:AllBare d.gens)
 (f:∀b∈ch,(b∈X.ex\/X.s₀.heap.objs.size<=b)/\b≠X.env.locals/\(∀x c,X.env.cells.lookup x=some c->c≠b)/\∀p∈X.pn++pins,p.1≠b):Inv X pins σ H' d:=by
 obtain⟨h',g',d',t',i⟩:=d
 have e:i=s.os:=g;subst e;exact I.call (g':=g') (t':=t') (d':=d') u hok h f
end
abbrev XK:=Value->Option Addr->Hp->Prop
abbrev St:=List (Option V)
abbrev VK:=V->Hp->Prop
abbrev TE:=St->Hp->VK->Prop
abbrev TT:=St->Hp->(Bool->Hp->Prop)->Prop
abbrev TA:=St->Hp->(List V->Hp->Prop)->Prop
structure Ends where
 nx:St->Hp->Prop
 rt:VK
 bk:St->Hp->Prop:=λ_ _=>False
 ct:St->Hp->Prop:=λ_ _=>False
abbrev TS:=Ends->St->Hp->Prop
def EP(X:Cx)(d:List (Addr×Obj))(f:St)(Q:VK)(u:Value)(g:Shared):Prop:=∃v e,Inv X d f e g/\RelV v u/\Q v e
def TP(X:Cx)(d:List (Addr×Obj))(f:St)(Q:Bool->Hp->Prop)(b:Bool)(g:Shared):Prop:=∃e,Inv X d f e g/\Q b e
def AP(X:Cx)(d:List (Addr×Obj))(g:St)(Q:List V->Hp->Prop)(h:List Value)(i:Shared):Prop:=∃e f,Inv X d g f i/\Vals e h/\Q e f
def SP(X:Cx)(e:List (Addr×Obj))(D:Ends)(f:Flow)(h:Shared):Prop:=
 match f with
 |.next=>∃d g,Inv X e d g h/\D.nx d g
 |.brk=>∃d g,Inv X e d g h/\D.bk d g
 |.cont=>∃d g,Inv X e d g h/\D.ct d g
 |.ret u=>∃v d g,Inv X e d g h/\RelV v u/\D.rt v g
def PE(X:Cx)(e:Expr)(t:TE):Prop:=
 ∀(d:List (Addr×Obj)) (s:Shared) (f:St) (H:Hp) (Q:VK),Inv X d f H s->t f H Q->wpAny (model X.prog X.w) X.A (eval e X.env) (EP X d f Q) X.xe s
def PT(X:Cx)(e:Expr)(t:TT):Prop:=
 ∀(d:List (Addr×Obj)) (s:Shared) (f:St) (H:Hp) (Q:Bool->Hp->Prop),Inv X d f H s->t f H Q->wpAny (model X.prog X.w) X.A (isTrue e X.env (eval e X.env)) (TP X d f Q) X.xe s
def PW(X:Cx)(e:Expr)(t:TT):Prop:=
 ∀(d:Sem Value) (pins:List (Addr×Obj)) (s:Shared) (f:St) (H:Hp) (Q:Bool->Hp->Prop),Inv X pins f H s->t f H Q->wpAny (model X.prog X.w) X.A (isTrue e X.env d) (TP X pins f Q) X.xe s
def PW.pt{X:Cx}{e:Expr}{t:TT}(h:PW X e t):PT X e t:=h _
def PA(X:Cx)(e:List Expr)(t:TA):Prop:=
 ∀(pos:Pos) (pins:List (Addr×Obj)) (s:Shared) (d:St) (H:Hp) (Q:List V->Hp->Prop),Inv X pins d H s->t d H Q->wpAny (model X.prog X.w) X.A (spliced (backTo pos (starEach e X.env))) (AP X pins d Q) X.xe s
def PS(X:Cx)(f:Stmt)(t:TS):Prop:=
 ∀(d:List (Addr×Obj)) (s:Shared) (e:St) (H:Hp) (D:Ends),Inv X d e H s->t D e H->wpAny (model X.prog X.w) X.A (exec f X.env) (SP X d D) X.xe s
def PSs(X:Cx)(f:List Stmt)(t:TS):Prop:=
 ∀(d:List (Addr×Obj)) (s:Shared) (e:St) (H:Hp) (D:Ends),Inv X d e H s->t D e H->wpAny (model X.prog X.w) X.A (execs f X.env) (SP X d D) X.xe s
def thn{d:Type}{t:Sem d}{Q e:d->Shared->Prop}{M:Model}{A:Around}{E:Value->Shared->Prop}{s:Shared}(h:wpAny M A t Q E s)(f:∀a s,Q a s->e a s):wpAny M A t e E s:=Uk h f λ_ _ x=>x
end L2
namespace L2
open PySem PySem.Spec PyProof.Rows
section
variable{X:Cx}
def tVar(i:Nat):TE:=λd H Q=>∃v,d[i]? = some (some v)/\Q v H
def tC(v:V):TE:=λ_ H Q=>Q v H
def zat{i:Nat}{x:Str}{pos:Pos}(q:X.N[i]? = some x)(t:Vis X.env.scope x)(n:(x == ("__debug__" : Str))=false:=by decide)(o:(x == ("__classdict__" : Str))=false:=by decide):PE X (.Name x pos) (tVar i):=by
 intro j s w H Q I h;obtain⟨v,e,h⟩:=h
 obtain⟨m,z,A⟩:=I.loc
 obtain⟨u,r,l⟩:=A i x v q e t
 have f:EP X j w Q u s:=⟨v,H,I,r,h⟩;rcases l with⟨g,B⟩|⟨g,c,p,d⟩
 ·exact wpAny_Name (wpAny_loadName_local I.ok.kind g z B f) n
 ·rcases g with g|g
  ·exact wpAny_Name (wpAny_loadName_cell I.ok.kind g p d f) n
  ·exact wpAny_Name (wpAny_loadName_free I.ok.kind g p d f o) n
def pe_int{i j pos}:PE X (.Constant (.int i) j pos) (tC (.int i)):=λ_ _ _ H _ I h=>wpAny_Constant_int ⟨.int i,H,I.tok _,⟨_,rfl⟩,h⟩
def pe_bl{b j pos}:PE X (.Constant (.bool b) j pos) (tC (.bl b)):=λ_ _ _ H _ I h=>Constant_bool ⟨.bl b,H,I,rfl,h⟩
def yhf{j pos}:PE X (.Constant .none j pos) (tC .non):=λ_ _ _ H _ I h=>Constant_none ⟨.non,H,I,rfl,h⟩
def Gl(X:Cx)(x:Str):Prop:=X.env.kindOf x=some .globalImplicit
def zyp{E:Value->Shared->Prop}{d:List (Addr×Obj)}{s:Shared}{e:St}{H:Hp}{x:Str}{u:Value}{pos:Pos}{Q:Value->Shared->Prop}(I:Inv X d e H s)(f:Gl X x)(g:X.mg x=some u)(h:Q u s)
 (i:(x == ("__debug__" : Str))=false:=by decide):wpAny (model X.prog X.w) X.A (eval (.Name x pos) X.env) Q E s:=
 Vc I.ok.kind f (Calls.loadGlobal_global (by rw[I.ok.glob];exact I.mod.glob.keeps I.bk) g h) i
def zgn{E:Value->Shared->Prop}{d:List (Addr×Obj)}{s:Shared}{e:St}{H:Hp}{x:Str}{u:Value}{pos:Pos}{Q:Value->Shared->Prop}(I:Inv X d e H s)(f:Gl X x)(g:X.mg x=none)(i:bootBuiltins x=some u)(h:Q u s)
 (j:x ≠ "__name__" := by decide)(l:(x == ("__debug__" : Str))=false:=by decide):wpAny (model X.prog X.w) X.A (eval (.Name x pos) X.env) Q E s:=by
 obtain⟨o,m,n⟩:=I.mod.blt
 exact Vc I.ok.kind f (Calls.loadGlobal_builtin (by rw[I.ok.glob];exact I.mod.glob.keeps I.bk) g (by rw[I.ok.blt];exact m.keeps I.bk) ((n x j).trans i) h) l
variable{a b:Expr}{ta tb:TE}{pos:Pos}
def tB(t:TE):TT:=λd H Q=>t d H λx e=>∃c,x=.bl c/\Q c e
def pt_val{e:Expr}{t:TE}(h:PE X e t)(i:∀f,isTrue e X.env f=(do let v <-f;standAt e.pos;holding [v] (truthy v)):=by intro _;rfl):PT X e (tB t):=by
 intro g s j H Q I l;refine isTrue_plain (thn (h g s j H _ I l) λv r ⟨x,m,n,o,p⟩=>?_) (i _);obtain⟨d,rfl,q⟩:=p
 cases o;exact Kd ⟨m,n,q⟩
variable{tA tB':TT}{rest:List Expr}
def tAnd(t u:TT):TT:=λd H Q=>t d H λc e=>if c=true then u d e Q else Q false e
def tOr(t u:TT):TT:=λd H Q=>t d H λc e=>if c=true then Q true e else u d e Q
def tNot(t:TT):TT:=λd H Q=>t d H λc e=>Q (!c) e
def yko(f:PT X a tA):PW X (.BoolOp .And [a] pos) tA:=by
 intro i d s g H Q I h;refine isTrue_and (thn (f d s g H Q I h) λc j e=>?_);cases c with
 |true=>exact isTrue_and_nil e
 |false=>exact e
def pw_or1(f:PT X a tA):PW X (.BoolOp .Or [a] pos) tA:=by
 intro i d s g H Q I h;refine isTrue_or (thn (f d s g H Q I h) λc j e=>?_);cases c with
 |false=>exact isTrue_or_nil e
 |true=>exact e
def ygz(j:PT X a tA)(l:PW X (.BoolOp .And (b::rest) pos) tB'):PW X (.BoolOp .And (a::b::rest) pos) (tAnd tA tB'):=by
 intro m d s e H Q I h;refine isTrue_and (thn (j d s e H _ I h) λc n ⟨f,g,i⟩=>?_);cases c with
 |true=>exact l m d n e f Q g i
 |false=>exact⟨f,g,i⟩
def pw_or(j:PT X a tA)(l:PW X (.BoolOp .Or (b::rest) pos) tB'):PW X (.BoolOp .Or (a::b::rest) pos) (tOr tA tB'):=by
 intro m d s e H Q I h;refine isTrue_or (thn (j d s e H _ I h) λc n ⟨f,g,i⟩=>?_);cases c with
 |true=>exact⟨f,g,i⟩
 |false=>exact l m d n e f Q g i
def pt_not(e:PT X a tA):PT X (.UnaryOp .Not a pos) (tNot tA):=by
 intro d s f H Q I h;exact isTrue_not (e d s f H (λc g=>Q (!c) g) I h)
def tAndV(ta tb:TE):TE:=λd H Q=>ta d H λx e=>∃c,x=.bl c/\if c=true then tb d e Q else Q (.bl false) e
def tOrV(ta tb:TE):TE:=λd H Q=>ta d H λx e=>∃c,x=.bl c/\if c=true then Q (.bl true) e else tb d e Q
def tNotV(ta:TE):TE:=λd H Q=>ta d H λx e=>∃c,x=.bl c/\Q (.bl (!c)) e
def pe_one{e}{t:TE}(h:PE X a t):PE X (.BoolOp e [a] pos) t:=λd s f H Q I g=>BoolOp_one (h d s f H Q I g)
def yhg(j:PE X a ta)(l:PE X (.BoolOp .And (b::rest) pos) tb):PE X (.BoolOp .And (a::b::rest) pos) (tAndV ta tb):=by
 intro d s f H Q I h;refine BoolOp_and (thn (j d s f H _ I h) λv m ⟨x,g,i,n,e⟩=>?_);obtain⟨c,rfl,e⟩:=e
 cases n;refine Kd ?_;cases c with
 |true=>exact l d m f g Q i e
 |false=>exact⟨.bl false,g,i,rfl,e⟩
def pe_or(j:PE X a ta)(l:PE X (.BoolOp .Or (b::rest) pos) tb):PE X (.BoolOp .Or (a::b::rest) pos) (tOrV ta tb):=by
 intro d s f H Q I h;refine BoolOp_or (thn (j d s f H _ I h) λv m ⟨x,g,i,n,e⟩=>?_);obtain⟨c,rfl,e⟩:=e
 cases n;refine Kd ?_;cases c with
 |false=>exact l d m f g Q i e
 |true=>exact⟨.bl true,g,i,rfl,e⟩
def pe_not(f:PE X a ta):PE X (.UnaryOp .Not a pos) (tNotV ta):=by
 intro d s g H Q I h;refine UnaryOp_ (thn (f d s g H _ I h) λv m ⟨x,i,j,l,e⟩=>?_);obtain⟨c,rfl,e⟩:=e
 cases l;exact not_of (Kd ⟨.bl (!c),i,j,rfl,e⟩)
def tIf(t:TT)(ta tb:TE):TE:=λd H Q=>t d H λc e=>if c=true then ta d e Q else tb d e Q
def zsb{c:Expr}(m:PT X c tA)(n:PE X a ta)(o:PE X b tb):PE X (.IfExp c a b pos) (tIf tA ta tb):=by
 intro e s f H Q I h;refine wpAny_IfExp (thn (m e s f H _ I h) λd g ⟨i,j,l⟩=>?_);cases d with
 |true=>exact n e g f i Q j l
 |false=>exact o e g f i Q j l
end
end L2
namespace L2
open PySem PySem.Spec PyProof.Rows
def SqL(K:vE)(H:Hp)(a:Addr)(e:List V):Prop:=
 Rd H a (.lst e) \/
  ∃(o:Obj) (d:Array Value) (n:Nat),K.lookup a=some o/\o.cls=.type "list" /\ o.dict=none/\o.data=.seq d n/\d.size<=sizeLine/\Vals e d.toList
def SqT(K:vE)(H:Hp)(a:Addr)(e:List V):Prop:=
 Rd H a (.tup e) \/
  ∃(o:Obj) (d:Array Value) (n:Nat),K.lookup a=some o/\o.cls=.type "tuple" /\ o.data=.seq d n/\d.size<=sizeLine/\Vals e d.toList
def absV:Value->Option V
 |.none=>some .non
 |.bool b=>some (.bl b)
 |.int i _=>some (.int i)
 |.str x _=>some (.str x)
 |.bytes b _=>some (.byt b)
 |.float b _=>some (.flt b)
 |.ref a=>some (.ref a)
 |.type n=>some (.ty n)
 |_=>none
def RelV.abs{x:V}{u:Value}(r:RelV x u):absV u=some x:=by
 cases x with
 |non=>cases r;rfl
 |bl _=>cases r;rfl
 |int _=>obtain⟨t,rfl⟩:=r;rfl
 |str _=>obtain⟨t,rfl⟩:=r;rfl
 |byt _=>obtain⟨t,rfl⟩:=r;rfl
 |flt _=>obtain⟨t,rfl⟩:=r;rfl
 |ref _=>cases r;rfl
 |ty _=>cases r;rfl
def RelV.inj{x y:V}{u:Value}(r:RelV x u)(q:RelV y u):x=y:=Z3 (r.abs.symm.trans q.abs)
theorem Vals.inj:∀{e d:List V}{f:List Value},Vals e f->Vals d f->e=d:=λ{e d f} h=>by
 induction h generalizing d with
 |nil=>intro k;cases k;rfl
 |cons r t g=>
  intro k;cases k with
  |cons i j=>rw[r.inj i,g j]
section
variable{X:Cx}{pins:List (Addr×Obj)}{σ:St}{H:Hp}{s:Shared}{a:Addr}{xs ys:List V}
def SqL.of{K:vE}(h:H a=some (.lst xs)):SqL K H a xs:=.inl (.inl h)
def SqT.of{K:vE}(h:H a=some (.tup xs)):SqT K H a xs:=.inl (.inl h)
def Inv.list(I:Inv X pins σ H s)(h:SqL X.K H a xs):∃d:List Value,Vals xs d/\PlainL s.heap a d.toArray/\xs.length<=sizeLine:=by
 rcases h with h|⟨o,d,n,f,g,i,j,l,r⟩
 ·obtain⟨z,d,n,r,e⟩:=h.ok I.hok
  exact⟨d,r,⟨_,n,e,rfl,rfl,rfl⟩,z⟩
 ·refine⟨d.toList,r,⟨o,n,I.kIn a o f,g,i,by simpa using j⟩,?_⟩
  have e:=r.length;simp only[Qp] at e;omega
def Inv.tuple(I:Inv X pins σ H s)(h:SqT X.K H a xs):∃d:List Value,Vals xs d/\IsTup s.heap a d.toArray/\xs.length<=sizeLine:=by
 rcases h with h|⟨o,d,n,f,g,i,j,r⟩
 ·obtain⟨z,d,r,p⟩:=h.ok I.hok
  exact⟨d,r,p,z⟩
 ·refine⟨d.toList,r,⟨o,I.kIn a o f,g,n,by simpa using i⟩,?_⟩
  have e:=r.length;simp only[Qp] at e;omega
def Inv.list_inj(I:Inv X pins σ H s)(h:SqL X.K H a xs)(l:SqL X.K H a ys):xs=ys:=by
 obtain⟨g,r,⟨o,n,e,_,_,d⟩,_⟩:=I.list h
 obtain⟨f,m,⟨q,t,i,_,_,j⟩,_⟩:=I.list l
 rw[e] at i;cases i;rw[d] at j;injection j with p _
 have:g=f:=by simpa using congrArg Array.toList p
 subst this;exact r.inj m
def Inv.tuple_inj(I:Inv X pins σ H s)(h:SqT X.K H a xs)(l:SqT X.K H a ys):xs=ys:=by
 obtain⟨g,r,⟨o,e,_,n,d⟩,_⟩:=I.tuple h
 obtain⟨f,m,⟨q,i,_,t,j⟩,_⟩:=I.tuple l
 rw[e] at i;cases i;rw[d] at j;injection j with p _
 have:g=f:=by simpa using congrArg Array.toList p
 subst this;exact r.inj m
end
abbrev Cx.wish(X:Cx)(E:Value->Shared->Prop):Cx:={X with xe:=E}
abbrev Cx.nox(X:Cx):Cx:=X.wish λ_ _=>False
theorem Cx.Ok.wish{X:Cx}(ok:X.Ok)(E:Value->Shared->Prop):(X.wish E).Ok:=
 ⟨ok.mod,ok.kind,ok.glob,ok.blt,ok.above,ok.inj,ok.has,ok.cab,ok.hd,ok.frames,ok.stk,ok.exf,ok.bs,ok.bsz,ok.noex,ok.exfs,ok.funs,ok.frf⟩
def Cx.Ok.unwish{X:Cx}{E:Value->Shared->Prop}(ok:(X.wish E).Ok):X.Ok:=
 ⟨ok.mod,ok.kind,ok.glob,ok.blt,ok.above,ok.inj,ok.has,ok.cab,ok.hd,ok.frames,ok.stk,ok.exf,ok.bs,ok.bsz,ok.noex,ok.exfs,ok.funs,ok.frf⟩
section
variable{X:Cx}{pins:List (Addr×Obj)}{σ:St}{H:Hp}{s:Shared}{E:Value->Shared->Prop}
theorem Inv.wish(I:Inv X pins σ H s)(E:Value->Shared->Prop):Inv (X.wish E) pins σ H s:=⟨I.ok.wish E,I.os,I.bare,I.base,I.loc,I.cell,I.free,I.freeC,I.pin,I.hok,I.len⟩
theorem Inv.unwish(I:Inv (X.wish E) pins σ H s):Inv X pins σ H s:=⟨I.ok.unwish,I.os,I.bare,I.base,I.loc,I.cell,I.free,I.freeC,I.pin,I.hok,I.len⟩
theorem SP.unwish{D:Ends}{f:Flow}{g:Shared}(h:SP (X.wish E) pins D f g):SP X pins D f g:=by
 cases f with
 |next=>obtain⟨d,e,I,q⟩:=h;exact⟨d,e,I.unwish,q⟩
 |brk=>obtain⟨d,e,I,q⟩:=h;exact⟨d,e,I.unwish,q⟩
 |cont=>obtain⟨d,e,I,q⟩:=h;exact⟨d,e,I.unwish,q⟩
 |ret u=>obtain⟨v,d,e,I,r,q⟩:=h;exact⟨v,d,e,I.unwish,r,q⟩
theorem PSs.nox{d:List Stmt}{t:TS}(h:PSs X.nox d t):PSs X d t:=λpins s σ H D I e=>
 Uk (h pins s σ H D (I.wish _) e) (λ_ _ q=>q.unwish) λ_ _ z=>False.elim z
end
section
variable{X:Cx}{st:Stmt}{rest:List Stmt}{t u:TS}{e:Expr}{te:TE}{pos:Pos}
def tNext:TS:=λD d H=>D.nx d H
def tSeq(t u:TS):TS:=λD d H=>t {D with nx:=u D} d H
def zxg:PSs X [] tNext:=λ_ _ d H _ I h=>Uf ⟨d,H,I,h⟩
def B9(g:PS X st t)(i:PSs X rest u):PSs X (st::rest) (tSeq t u):=by
 intro d s j H D I h;refine wpAny_execs_cons (thn (g d s j H {D with nx:=u D} I h) λf l q=>?_);cases f with
 |next=>
  obtain⟨e,m,n,q⟩:=q
  exact i d l e m D n q
 |ret v=>exact q
 |brk=>exact q
 |cont=>exact q
def zcz(e:PS X st t):PSs X [st] t:=by
 intro d s g H D I h;refine wpAny_execs_cons (thn (e d s g H D I h) λf i q=>?_);cases f with
 |next=>exact Uf q
 |ret v=>exact q
 |brk=>exact q
 |cont=>exact q
def Inv.quiet{pins:List (Addr×Obj)}{σ:St}{H:Hp}{s:Shared}(I:Inv X pins σ H s):interactive X.env=false:=by simp[interactive,I.ok.kind]
def ycl(te:TE):TS:=λD d H=>te d H λ_ e=>D.nx d e
def zfx(g:PE X e te)(i:swapsWith e none pos.line X.env=pure false:=by rfl):PS X (.Expr e pos) (ycl te):=by
 intro d s f H D I h;exact wpAny_Expr_any (thn (g d s f H _ I h) λv n ⟨x,j,l,o,m⟩=>⟨f,j,l,m⟩) I.quiet i
def tRet(te:TE):TS:=λD d H=>te d H D.rt
def zrz(g:PE X e te):PS X (.Return (some e) pos) (tRet te):=by
 intro d s f H D I h;exact wpAny_Return_some (thn (g d s f H _ I h) λv n ⟨x,i,j,l,m⟩=>⟨x,f,i,j,l,m⟩)
def tIfS(c:TT)(t u:TS):TS:=λD d H=>c d H λb e=>if b=true then t D d e else u D d e
def ykv{c:Expr}{a b:List Stmt}{g:TT}(n:PT X c g)(o:PSs X a t)(p:PSs X b u):PS X (.If c a b pos) (tIfS g t u):=by
 intro e s f H D I h;refine wpAny_If (thn (n e s f H _ I h) λd i ⟨j,l,m⟩=>?_);cases d with
 |true=>exact o e i f j D l m
 |false=>exact p e i f j D l m
def tNever:TS:=λ_ _ _=>False
def zim{d:List Stmt}:PSs X d tNever:=λ_ _ _ _ _ _ h=>h.elim
end
abbrev TG:=V->St->Hp->(St->Hp->Prop)->Prop
abbrev TGs:=List V->St->Hp->(St->Hp->Prop)->Prop
def PG(X:Cx)(d:Expr)(t:TG):Prop:=
 ∀(e:List (Addr×Obj)) (s:Shared) (g:St) (H:Hp) (v:V) (u:Value) (Q:St->Hp->Prop),Inv X e g H s->RelV v u->t v g H Q ->
  wpAny (model X.prog X.w) X.A (assign d X.env u) (λ_ i=>∃f h,Inv X e f h i/\Q f h) X.xe s
def PGs(X:Cx)(j:List Expr)(t:TGs):Prop:=
 ∀(d:List (Addr×Obj)) (s:Shared) (f:St) (H:Hp) (g:List V) (h:List Value) (Q:St->Hp->Prop),Inv X d f H s->Vals g h->t g f H Q ->
  wpAny (model X.prog X.w) X.A (assignInOrder ((assignEach j X.env).map (·.2)) h) (λ_ l=>∃e i,Inv X d e i l/\Q e i) X.xe s
abbrev TSet:=V->V->V->Hp->(Hp->Prop)->Prop
def PSet(X:Cx)(t:TSet):Prop:=
 ∀(d:List (Addr×Obj)) (s:Shared) (e:St) (H:Hp) (o i v:V) (f g u:Value) (Q:Hp->Prop),Inv X d e H s->RelV o f->RelV i g->RelV v u->t o i v H Q ->
  wpAny (model X.prog X.w) X.A (setItem f g u) (λ_ j=>∃h,Inv X d e h j/\Q h) X.xe s
section
variable{X:Cx}{pos:Pos}
def zzf(i:Nat):TG:=λv d H Q=>Q (d.set i (some v)) H
def ziq{i:Nat}{x:Str}(e:X.N.Nodup)(f:X.N[i]? = some x)(g:Loc X.env.scope x)(j:X.fn x=true\/X.env.scope.names.lookup x=some .local:=by first|exact .inl rfl|exact .inr rfl|assumption):PG X (.Name x pos) (zzf i):=by
 intro d s m H v u Q I r h;exact wpAny_assign_Name (zhh I e f g r (λn l=>⟨_,H,l,h⟩) j)
def gNil:TGs:=λd e H Q=>d=[]/\Q e H
def gCons(t:TG)(u:TGs):TGs:=λe f H Q=>∃v r,e=v::r/\t v f H λd g=>u r d g Q
def zpx:PGs X [] gNil:=by
 intro d s f H g i Q I r h;obtain⟨e,h⟩:=h
 subst e;cases r;exact assignInOrder_nil ⟨f,H,I,h⟩
def zhj{e:Expr}{f:List Expr}{t:TG}{u:TGs}(i:PG X e t)(j:PGs X f u)
 (l:(assignEach (e::f) X.env).map (·.2)=assign e X.env::(assignEach f X.env).map (·.2):=by rfl):PGs X (e::f) (gCons t u):=by
 intro d s m H A B Q I r h;obtain⟨v,C,n,h⟩:=h
 subst n;cases r with
 |cons r o=>
  rw[l];refine U7 (thn (i d s m H _ _ _ I r h) λ_ p ⟨g,q,w,z⟩=>?_);exact j d p g q _ _ Q w o z
def gTup(K:vE)(n:Nat)(t:TGs):TG:=λv e H Q=>∃a d,v=.ref a/\SqT K H a d/\d.length=n/\t d e H Q
def zxp{f:List Expr}{k:Nat}{t:TGs}{n:Nat}(m:X.calm=true)(h:PGs X f t)
 (p:(assignEach f X.env).length=n:=by rfl)(g:(assignEach f X.env).findIdx? (·.1)=none:=by rfl):PG X (.Tuple f k pos) (gTup X.K n t):=by
 intro d s j H v u Q I r i;obtain⟨a,q,w,z,A,i⟩:=i
 subst w;cases r;obtain⟨B,l,C,G⟩:=I.tuple z
 refine assign_Tuple_tuple (I.ok.hd m) C (by simp[p,<-A,l.length]) g λD E=>?_;have F:Inv X d j H {s with heap:=D}:=I.kept (t':=s.toks) λb o e=>E b o (Yh (Zn e)) e
 exact h d _ j H q _ Q F (by simpa using l) i
def gSub(e f:TE)(t:TSet):TG:=λv d H Q=>e d H λo g=>f d g λi h=>t o i v h λH3=>Q d H3
def pg_sub{o i:Expr}{j l:TE}{t:TSet}(m:PE X o j)(n:PE X i l)(p:PSet X t)
 (q:∀v,assign (.Subscript o i pos) X.env v=(do
   let e <-holding [v] (eval o X.env)
   let f <-holding [v,e] (eval i X.env)
   standAt pos
   holding [v,e,f] (setItem e f v)
   release [v,e,f] []):=by intro _;rfl):PG X (.Subscript o i pos) (gSub j l t):=by
 intro d s g H v u Q I r h;rw[q];refine Zd (Qa (thn (m d s g H _ I h) λe w ⟨x,z,A,B,C⟩=>?_));refine Zd (Qa (thn (n d w g z _ A C) λf D ⟨y,E,F,G,J⟩=>?_));refine Zd (U4 (Zd (Qa (thn (p d D g E x y v e f u _ F B G r J) λ_ M ⟨H3,K,L⟩=>?_))));exact wpAny_release ⟨g,H3,K,L⟩
def tAsg(e:TE)(g:TG):TS:=λD d H=>e d H λx f=>g x d f D.nx
def yhd{f e:Expr}{i:TE}{g:TG}(l:PE X e i)(m:PG X f g)(n:swapsWithSole [f] e pos.line X.env=pure false:=by rfl)(o:swappedStores [f] e X.env=pure none:=by rfl)
 (p:(assignEach [f] X.env).map (·.2)=[assign f X.env]:=by rfl):PS X (.Assign [f] e pos) (tAsg i g):=by
 intro d s j H D I h;refine wpAny_Assign_stores (thn (l d s j H _ I h) λv r ⟨x,t,u,w,z⟩=>?_) n o;rw[p];exact thn (m d r j t x v _ u w z) λ_ A q=>q
def zfb{i:Nat}{x:Str}{e:Expr}{g:TE}{d:Pos}(j:X.N.Nodup)(l:X.N[i]? = some x)(m:Loc X.env.scope x)(n:PE X e g)(o:swapsWith e (some (.Name x d)) pos.line X.env=pure false:=by rfl)(p:X.fn x=true\/X.env.scope.names.lookup x=some .local:=by first|exact .inl rfl|exact .inr rfl|assumption):
  PS X (.Assign [.Name x d] e pos) (tAsg g (zzf i)):=by
 intro f s q H D I h;refine wpAny_Assign_Name (thn (n f s q H _ I h) λv A ⟨y,r,t,u,w⟩=>?_) o;exact zhh t j l m u (λB z=>⟨_,r,z,w⟩) p
def tPar(i j:Nat)(e:TA):TS:=λD d H=>e d H λf g=>∃v w,f=[v,w]/\D.nx ((d.set i (some v)).set j (some w)) g
def ps_par{i j:Nat}{x y:Str}{a b:Expr}{G:TA}{n r t:Pos}{u z f}(Q:X.calm=true)(J:X.N.Nodup)(R:X.N[i]? = some x)(S:X.N[j]? = some y)(B:i≠j)
 (K:X.env.scope.names.lookup x=some .local)(L:X.env.scope.names.lookup y=some .local)(T:PA X [a,b] G)
 (U:swappedStores [.Tuple [.Name x n,.Name y r] u t] (.Tuple [a,b] z f) X.env=pure (some [x,y]))
 (V:swapsWithSole [.Tuple [.Name x n,.Name y r] u t] (.Tuple [a,b] z f) pos.line X.env=pure false:=by rfl):
  PS X (.Assign [.Tuple [.Name x n,.Name y r] u t] (.Tuple [a,b] z f) pos) (tPar i j G):=by
 intro d s M H D I h;rw[exec_Assign_arm];refine Zd (U4 ?_);rw[V];refine Zd (Zs ?_);rw[if_neg vA];refine Zd (Tuple_ (thn (T _ d s M H _ I h) λW g ⟨vs,O,Y,Z,C⟩=>?_));obtain⟨v,w,e1,C⟩:=C
 subst e1;obtain⟨l,m,rfl,rv,E⟩:∃l m,W=[l,m]/\RelV v l/\RelV w m:=by
  cases Z with
  |cons p q=>
   cases q with
   |cons p' q'=>
    cases q';exact⟨_,_,rfl,p,p'⟩
 refine Jt ?_ (by show 2<=sizeLine;decide);have I2:Inv X d M O {g with heap:=g.heap.push {cls:=.type "tuple",data:=.seq [l,m].toArray} }:=Y.kept (t':=g.toks) λb o e=>Zf _ e
 rw[U];refine Zd (Zs ?_);show wpAny (model X.prog X.w) X.A (do rule "assign.swapped-stores"; let items <-unpackItems (.ref g.heap.objs.size) 2 none;assignInOrder [λv=>bindName X.env y v,λv=>bindName X.env x v] items.reverse;pure Flow.next) _ _ _;refine Zd (Js (Zd (unpackItems_tuple (items:=#[l,m]) (I.ok.hd Q) (IsTup.new g.heap _) λh' F=>?_)));have I3:=I2.kept (h':=h') (t':=g.toks) λb o e=>F b o (Yh (Zn e)) e
 show wpAny _ _ (assignInOrder [λv=>bindName X.env y v,λv=>bindName X.env x v] [m,l] >>= λ_=>pure Flow.next) _ _ _;refine Zd (U7 (wpAny_bindName (zhh I3 J S (.inl L) E (λs2 I4=>?_) (.inr L))));refine U7 (wpAny_bindName (zhh I4 J R (.inl K) rv (λs3 P=>assignInOrder_nil (Zs ?_)) (.inr K)));rw[List.set_comm _ _ (W5 B)] at P;exact⟨_,O,P,C⟩
end
section
variable{X:Cx}{pos:Pos}
def tWhile(c:TT)(i:TS):TS:=λD d H=>∃W:Nat->St->Hp->Prop,(∃m,W m d H)/\∀m d H,W m d H ->
 c d H λb f=>if b=true then ∃N:St->Hp->Prop,(∀e g,N e g->∃h,h<m/\W h e g)/\i {D with nx:=N,ct:=N,bk:=D.nx} d f else D.nx d f
def zll{c:Expr}{i:List Stmt}{u:TT}{z:TS}(B:PassesOwn (model X.prog X.w) X.A X.env X.xe)(K:PT X c u)(L:PSs X i z):PS X (.While c i [] pos) (tWhile u z):=by
 intro d s M H D I h;obtain⟨W,⟨O,P⟩,turn⟩:=h
 refine wpAny_While (codeAny_whileLoop (λn Q=>∃j C,Inv X d j C Q/\W n j C) ?_ O ⟨M,H,I,P⟩);rintro n R ⟨g,E,S,T⟩
 refine Q8 B (thn (K d R g E _ S (turn n g E T)) λb U ⟨F,G,l⟩=>?_);cases b with
 |true=>
  obtain⟨N,J,l⟩:=l
  rw[if_pos rfl];refine Q8 B (thn (L d U g F _ G l) λf V m=>?_);cases f with
  |next=>
   obtain⟨e,H3,o,p⟩:=m
   obtain⟨q,r,t⟩:=J e H3 p
   exact⟨q,r,e,H3,o,t⟩
  |cont=>
   obtain⟨e,H3,o,p⟩:=m
   obtain⟨q,r,t⟩:=J e H3 p
   exact⟨q,r,e,H3,o,t⟩
  |brk=>exact m
  |ret v=>exact m
 |false=>
  rw[if_neg Zw];exact Uf ⟨g,F,G,l⟩
end
structure It where
 go:Nat->Hp->Prop
 yld:Nat->Hp->V->Hp->Prop
 stop:Nat->Hp->Prop
def FpOk(X:Cx)(d:List (Addr×Obj))(H:Hp)(b:Addr):Prop:=
 H b=none/\b≠X.env.locals/\b∉X.fs/\(b∈X.ex\/X.s₀.heap.objs.size<=b)/\(∀x c,X.env.cells.lookup x=some c->c≠b)/\∀p∈X.pn++d,p.1≠b
def Inv.fpOk{X:Cx}{pins:List (Addr×Obj)}{σ:St}{H H':Hp}{s:Shared}{b:Addr}(I:Inv X pins σ H s)(d:s.heap.objs.size<=b)(f:H' b=none):FpOk X pins H' b:=by
 refine⟨f,Yb (Ze I.lt d),I.nofs d,.inr (Wg I.sz d),λx c e z=>?_,λp g z=>?_⟩
 ·obtain⟨v,q⟩:=I.cell x c e
  exact absurd (Ze q.lt (by rw[z];exact d)) (Wt _)
 ·exact absurd (Ze (Zn (I.pin p g).1) (by rw[z];exact d)) (Wt _)
structure Turn(P:Program)(w:World)(K:vE)(tg:Expr)(J:It)(fp:List Addr)(it:Addr)(tn:Nat->Heap->Prop):Prop where
 mem:it∈fp
 obj:∀i h,tn i h->∀b∈fp,∃o,h.get? b=some o/\∀v,o.data ≠ .cell v
 keep:∀i h h',tn i h->(∀b∈fp,∀o,h.get? b=some o->h'.get? b=some o)->tn i h'
 item:∀(X:Cx),X.prog=P->X.w=w->X.K=K->X.calm=true->∀(i:Nat) (pins:List (Addr×Obj)) (s:Shared) (σ:St) (H:Hp) (E:Value->Shared->Prop),Inv X pins σ H s->(∀b∈fp,FpOk X pins H b)->tn i s.heap->J.go i H ->
  wpAny (model P w) X.A (pyNext (.ref it)) (λr s1=>∃u,r=some u /\
   wpAny (model P w) X.A (letOwnedTupleGo tg (.ref it) u) (λ_ s2=>∃x H',Inv X pins σ H' s2/\RelV x u/\J.yld i H x H'/\tn (i+1) s2.heap/\∀b∈fp,H' b=none) E s1) E s
 done:∀(X:Cx),X.prog=P->X.w=w->X.K=K->X.calm=true->∀(i:Nat) (pins:List (Addr×Obj)) (s:Shared) (σ:St) (H:Hp) (E:Value->Shared->Prop),Inv X pins σ H s->(∀b∈fp,FpOk X pins H b)->tn i s.heap->J.stop i H ->
  wpAny (model P w) X.A (pyNext (.ref it)) (λr s1=>r=none/\Inv X pins σ H s1) E s
 self:∀(A:Around) (i:Nat) (s:Shared) (Q:Value->Shared->Prop) (E:Value->Shared->Prop),tn i s.heap->Q (.ref it) s->wpAny (model P w) A (pyIter (.ref it)) Q E s
abbrev TI:=St->Hp->(It->Hp->Prop)->Prop
def PIE(X:Cx)(d:List (Addr×Obj))(l:St)(m:Expr)(R:It->Hp->Prop)(e:Value)(g:Shared):Prop:=
 ∃(h:Addr) (i:List Addr) (j:Nat->Heap->Prop) (J:It) (f:Hp),e=.ref h/\Inv X d l f g/\Turn X.prog X.w X.K m J i h j/\j 0 g.heap/\(∀b∈i,FpOk X d f b)/\R J f
def PI(X:Cx)(g e:Expr)(h:TI):Prop:=
 ∀(d:List (Addr×Obj)) (s:Shared) (f:St) (H:Hp) (R:It->Hp->Prop),Inv X d f H s->h f H R ->
  wpAny (model X.prog X.w) X.A (eval e X.env) (λv i=>wpAny (model X.prog X.w) X.A (pyIter v) (PIE X d f g R) X.xe i) X.xe s
def yev{M:Model}{A:Around}{E:Value->Shared->Prop}{s:Shared}{e:Expr}{f:Addr}{u:Value}{o:Obj}{n:String}{g:Array Value}{Q:Unit->Shared->Prop}(i:s.heap.get? f=some o)(j:o.cls=.type n)(l:o.data=.fields g)
   (m:["enumerate","zip","dict_itemiterator","dict_reverseitemiterator","odict_iterator","itertools.zip_longest","itertools.pairwise"].contains n=false)(d:Q () s):wpAny M A (letOwnedTupleGo e (.ref f) u) Q E s:=by
  unfold letOwnedTupleGo;cases e<;>first
    |exact Zs d
    | (cases u<;>first
        |exact Zs d
        | (refine Zd (wpAny_load i ?_)
           rw[j,l];show wpAny M A (if (["enumerate","zip","dict_itemiterator","dict_reverseitemiterator","odict_iterator","itertools.zip_longest","itertools.pairwise"].contains n && g[0]? == some (rawInt _))=true then _ else _) Q E s;rw[if_neg (by intro h;rw[m,Bool.false_and] at h;cases h)];exact Zs d))
def Itl(K:vE)(a:Addr):It:=
 ⟨λi H=>∃d x,SqL K H a d/\d[i]? = some x,λi H x e=>e=H/\∀d,SqL K H a d->d[i]? = some x,λi H=>∃d,SqL K H a d/\d.length<=i⟩
def Itt(K:vE)(a:Addr):It:=
 ⟨λi H=>∃d x,SqT K H a d/\d[i]? = some x,λi H x e=>e=H/\∀d,SqT K H a d->d[i]? = some x,λi H=>∃d,SqT K H a d/\d.length<=i⟩
def Itr(d:Int)(n:Nat):It:=⟨λi _=>i<n,λi H x e=>e=H/\x=.int (d+i),λi _=>n<=i⟩
def zvs{P:Program}{w:World}{K:vE}{S:Expr}(a j:Addr):Turn P w K S (Itl K a) [j] j (λi h=>h.IsListIter j a i) where
 mem:=by simp
 obj:=λi h f b l=>by
  have e:b=j:=by simpa using l
  subst e;obtain⟨o,e,c,d⟩:=f
  exact⟨o,e,λv z=>by rw[d] at z;cases z⟩
 keep:=λi h n f k=>f.at λo e=>k j vC o e
 item:=by
  intro X t A B Q i g s R H E I q f C;subst t A B;obtain⟨T,x,r,D⟩:=C
  obtain⟨F,G,p,U⟩:=I.list r
  obtain⟨u,V,Y⟩:=G.get D
  obtain⟨J,L,Z,M,N,O⟩:=q j vC
  refine wpAny_pyNext_list_item f p.isList (x:=u) (by simpa using V) λn m sb=>?_;have I1:Inv X g R H {s with heap:=n}:=I.turned (t':=s.toks) (λb o l e=>(sb.2 b l).trans e) J L M N O;obtain⟨o,e,c,d⟩:=id m
  exact⟨u,rfl,yev (s:={s with heap:=n}) e c d vA ⟨x,H,I1,Y,⟨rfl,λys hy=>by rw[I.list_inj hy r];exact D⟩,m,λb l=>(q b l).1⟩⟩
 done:=by
  intro X t A B Q i g s R H E I q f C;subst t A B;obtain⟨T,r,D⟩:=C
  obtain⟨F,G,p,U⟩:=I.list r
  obtain⟨J,L,Z,M,N,O⟩:=q j vC
  have hl:=G.length;exact wpAny_pyNext_list_end (I.ok.hd Q) f p.isList (by simp;omega) λn eb=>⟨rfl,I.turned (t':=s.toks) (λb o l e=>eb b o l e) J L M N O⟩
 self:=λ_ _ _ _ _ f h=>wpAny_pyIter_listiter f h
def zts{P:Program}{w:World}{K:vE}{S:Expr}(a j:Addr):Turn P w K S (Itt K a) [j] j (λi h=>h.IsTupleIter j a i) where
 mem:=by simp
 obj:=λi h f b l=>by
  have e:b=j:=by simpa using l
  subst e;obtain⟨o,e,c,d⟩:=f
  exact⟨o,e,λv z=>by rw[d] at z;cases z⟩
 keep:=λi h q f k=>f.at λo e=>k j vC o e
 item:=by
  intro X A B C Q i g s R H E I r f D;subst A B C;obtain⟨T,x,t,F⟩:=D
  obtain⟨m,G,p,U⟩:=I.tuple t
  obtain⟨u,V,Y⟩:=G.get F
  obtain⟨J,L,Z,M,N,O⟩:=r j vC
  refine wpAny_pyNext_tuple_item f (show s.heap.IsTuple a m.toArray from p) (x:=u) (by simpa using V) λq n sb=>?_;have I1:Inv X g R H {s with heap:=q}:=I.turned (t':=s.toks) (λb o l e=>(sb.2 b l).trans e) J L M N O;obtain⟨o,e,c,d⟩:=id n
  exact⟨u,rfl,yev (s:={s with heap:=q}) e c d vA ⟨x,H,I1,Y,⟨rfl,λys hy=>by rw[I.tuple_inj hy t];exact F⟩,n,λb l=>(r b l).1⟩⟩
 done:=by
  intro X A B C Q i g s R H E I r f D;subst A B C;obtain⟨T,t,F⟩:=D
  obtain⟨m,G,p,U⟩:=I.tuple t
  obtain⟨J,L,Z,M,N,O⟩:=r j vC
  have hl:=G.length;exact wpAny_pyNext_tuple_end (I.ok.hd Q) f (show s.heap.IsTuple a m.toArray from p) (by simp;omega) λq eb=>⟨rfl,I.turned (t':=s.toks) (λb o l e=>eb b o l e) J L M N O⟩
 self:=λ_ _ _ _ _ f h=>wpAny_pyIter_tupleiter f h
def ztt{P:Program}{w:World}{K:vE}{O:Expr}(f:Addr)(m:Int)(n:Nat):Turn P w K O (Itr m n) [f] f (λi h=>IsRangeIter h f (m+(i:Nat)*1) ((n:Int)-(i:Nat)) 1) where
 mem:=by simp
 obj:=λi h d b j=>by
  have e:b=f:=by simpa using j
  subst e;exact⟨_,d,λv z=>by
   have Q:Data.fields _=Data.cell v:=z;cases Q⟩
 keep:=λi h p d k=>k f vC _ d
 item:=by
  intro X r u A B i g s M H E I q d C;subst r u A;obtain⟨D,F,R,G,J,L⟩:=q f vC
  have W:=Walks.range (prog:=X.prog) (w:=X.w) (I.ok.hd B) f m 1 n;refine W.item i s _ _ C d λv p N S l T=>?_;obtain⟨t,rfl⟩:=S
  have U:Inv X g M H {s with heap:=p,toks:=N}:=I.turned (λb o j e=>T b o (by simpa using j) e) D F G J L;refine⟨_,rfl,yev (s:={s with heap:=p,toks:=N}) (n := "range_iterator") l rfl rfl vA ⟨.int (m+i),H,U,⟨t,?_⟩,⟨rfl,rfl⟩,l,λb j=>(q b j).1⟩⟩
  rw[Uj]
 done:=by
  intro X r u A B i g s M H E I q d C;subst r u A;obtain⟨D,F,R,G,J,L⟩:=q f vC
  exact wpAny_pyNext_range_end (I.ok.hd B) d (by have:n<=i:=C;omega) λp V=>⟨rfl,I.turned (t':=s.toks) (λb o j e=>V b o j e) D F G J L⟩
 self:=λ_ _ _ _ _ d h=>wpAny_pyIter_rangeiter d h
end L2
namespace L2
open PySem PySem.Spec PyProof.Rows
section
variable{X:Cx}{tg:Expr}
def iList(K:vE)(e:TE):TI:=λf H R=>e f H λx d=>∃a,x=.ref a/\(∃g,SqL K d a g)/\R (Itl K a) d
def iTup(K:vE)(e:TE):TI:=λf H R=>e f H λx d=>∃a,x=.ref a/\(∃g,SqT K d a g)/\R (Itt K a) d
def zpw{l:Expr}{i:TE}(j:PE X l i):PI X tg l (iList X.K i):=by
 intro d s m H R I h;refine thn (j d s m H _ I h) λv f ⟨x,n,g,r,t⟩=>?_;obtain⟨a,e,⟨A,u⟩,q⟩:=t
 subst e;cases r;obtain⟨w,B,p,C⟩:=g.list u
 refine Vd p.isList ?_;refine⟨f.heap.objs.size,[f.heap.objs.size],_,_,n,rfl,g.kept (t':=f.toks) λb o e=>Zf _ e,zvs a _,⟨_,Zy _ rfl,rfl,rfl⟩,λb z=>?_,q⟩
 have e:b=f.heap.objs.size:=by simpa using z
 subst e;exact g.fpOk (Zl _) (g.hok.fresh (Zl _))
def zxn{l:Expr}{j:TE}(m:PE X l j):PI X tg l (iTup X.K j):=by
 intro d s n H R I h;refine thn (m d s n H _ I h) λv f ⟨x,r,g,t,u⟩=>?_;obtain⟨a,e,⟨A,w⟩,q⟩:=u
 subst e;cases t;obtain⟨i,B,p,C⟩:=g.tuple w
 refine wpAny_pyIter_tuple (show f.heap.IsTuple a i.toArray from p) ?_;refine⟨f.heap.objs.size,[f.heap.objs.size],_,_,r,rfl,g.kept (t':=f.toks) λb o e=>Zf _ e,zts a _,⟨_,Zy _ rfl,rfl,rfl⟩,λb z=>?_,q⟩
 have e:b=f.heap.objs.size:=by simpa using z
 subst e;exact g.fpOk (Zl _) (g.hok.fresh (Zl _))
def ydf{g:List (Addr×Obj)}{h:St}{H:Hp}{s:Shared}{R:It->Hp->Prop}{E:Value->Shared->Prop}{d f:Int}{t u v:Tok}{i:Nat}(I:Inv X g h H s)(l : -(2^62)<=d)(m:d<2^62)(n : -(2^62)<=f)(p:f<2^62)
 (q:R (Itr d (f-d).toNat) H):wpAny (model X.prog X.w) X.A (pyIter (.ref s.heap.objs.size)) (PIE X g h tg R) E {s with heap:=s.heap.push {cls:=.type "range",data:=.fields #[.int d t,.int f u,.int 1 v]},toks:=i}:=by
 refine wpAny_pyIter_range (IsRange.new ..) (small_one l m n p) ?_;have j:Inv X g h H {s with heap:=s.heap.push {cls:=.type "range",data:=.fields #[.int d t,.int f u,.int 1 v]},toks:=i}:=I.kept λb o e=>Zf _ e
 refine⟨(s.heap.push {cls:=.type "range",data:=.fields #[.int d t,.int f u,.int 1 v]}).objs.size,[(s.heap.push {cls:=.type "range",data:=.fields #[.int d t,.int f u,.int 1 v]}).objs.size],_,_,H,rfl,
  j.kept (t':=i) λb o e=>Zf _ e,ztt _ d (f-d).toNat,?_,λb r=>?_,q⟩
 ·have z:d+((0:Nat):Int)*1=d:=by simp
  have B:(((f-d).toNat:Nat):Int)-((0:Nat):Int)=Builtin.Range.rangeSize d f 1:=by rw[rangeSize_one];split<;>omega
  show IsRangeIter _ _ (d+((0:Nat):Int)*1) ((((f-d).toNat:Nat):Int)-((0:Nat):Int)) 1;rw[z,B];exact Zy _ rfl
 ·have e:b=(s.heap.push {cls:=.type "range",data:=.fields #[.int d t,.int f u,.int 1 v]}).objs.size:=by simpa using r
  subst e;exact j.fpOk (Zl _) (j.hok.fresh (Zl _))
def iRng1(d:TA):TI:=λe H R=>d e H λf g=>∃j:Int,f=[.int j] /\ -(2^62)<=j/\j<2^62/\R (Itr 0 j.toNat) g
def zio{a:Expr}{g:TA}{p pos:Pos}(i:Gl X "range")(l:X.mg "range" = none)(m:PA X [a] g)(n:starEach [a] X.env=[(false,eval a X.env)]:=by rfl):PI X tg (.Call (.Name "range" p) [a] [] pos) (iRng1 g):=by
 intro d s o H R I h;refine Call_ (zgn I i l boot_range (Y4 (thn (m pos d s o H _ I h) λA B ⟨C,D,u,v,f⟩=>?_) n rfl));obtain⟨j,e,f,w,q⟩:=f
 subst e;cases v with
 |cons r z=>
  cases z;obtain⟨t,rfl⟩:=r
  exact call_range_1 (ydf u vB vB f w (by simpa using q))
def tFor(l:TI)(g:TG)(n:TS):TS:=λD d H=>l d H λJ o=>∃W:Nat->Nat->St->Hp->Prop,(∃m,W 0 m d o)/\∀i m d H,W i m d H ->
 (J.stop i H/\D.nx d H)\/(J.go i H/\∃N:St->Hp->Prop,(∀e f,N e f->∃j,j<m/\W (i+1) j e f)/\∀x f,J.yld i H x f->g x d f λh p=>n {D with nx:=N,ct:=N,bk:=D.nx} h p)
def zkl(d:List Addr)(h:Heap):List (Addr×Obj):=d.filterMap λb=>(h.get? b).map λo=>(b,o)
def zea{d:List Addr}{h:Heap}{b:Addr}{o:Obj}(f:b∈d)(e:h.get? b=some o):(b,o)∈zkl d h:=Ul.mpr ⟨b,f,by rw[e];rfl⟩
def zxt{d:List Addr}{h:Heap}{p:Addr×Obj}(f:p∈zkl d h):p.1∈d/\h.get? p.1=some p.2:=by
 obtain⟨b,g,e⟩:=Ul.mp f
 cases q:h.get? b with
 |none=>rw[q] at e;cases e
 |some o=>
  rw[q] at e;have i:(b,o)=p:=Z3 e;subst i;exact⟨g,q⟩
def Inv.pinned{pins:List (Addr×Obj)}{σ:St}{H:Hp}{s:Shared}{f:List Addr}(I:Inv X pins σ H s)(i:∀b∈f,FpOk X pins H b)(j:∀b∈f,∃o,s.heap.get? b=some o/\∀v,o.data ≠ .cell v):Inv X (pins++zkl f s.heap) σ H s:=
 I.pins_of λp l=>(Y0.mp l).elim (λz=>I.pin p (Yk _ z)) λz=>by
  obtain⟨g,e⟩:=zxt z
  obtain⟨m,n,q,_⟩:=i p.1 g
  obtain⟨o,h,d⟩:=j p.1 g
  rw[e] at h;cases h;exact⟨e,m,n,q,d⟩
def Inv.unpinned{pins pl:List (Addr×Obj)}{σ:St}{H:Hp}{s:Shared}(I:Inv X (pins++pl) σ H s):Inv X pins σ H s:=I.pins_of λp d=>I.pin p (Yk _ (Q5 _ d))
def zxi{p:Expr}{K:List Stmt}{wi:TI}{g:TG}{tb:TS}{pos:Pos}(O:PassesOwn (model X.prog X.w) X.A X.env X.xe)(hc:X.calm=true)(hi:PI X tg p wi)(hg:PG X tg g)(q:PSs X K tb)
 (hs:∀x,foldedSetIterable p X.env x=pure x:=by intro _;rfl):PS X (.For tg p K [] pos) (tFor wi g tb):=by
 intro j s σ H D I h;refine wpAny_For (thn (hi j s σ H _ I h) λv s1 h1=>thn h1 λa1 s2 h2=>?_) hs;obtain⟨it,P,tn,J,H2,e,I2,T,U,f2,W,⟨m0,w0⟩,turn⟩:=h2
 subst e;have t:∀{G:Hp},(∀b∈P,G b=none)->∀b∈P,FpOk X j G b:=λhn b q=>⟨hn b q,(f2 b q).2⟩
 refine codeAny_forLoop_any (λn s'=>∃i z G,Inv X j z G s'/\tn i s'.heap/\(∀b∈P,G b=none)/\W i n z G) ?_ m0 ⟨0,σ,H2,I2,U,λb q=>(f2 b q).1,w0⟩;rintro n s3 ⟨i,B,H3,I3,Q,R,w3⟩
 rcases turn i n B H3 w3 with⟨stop,qn⟩|⟨go,N,hN,step⟩
 ·refine Q8 O (thn (T.done X rfl rfl rfl hc i j s3 B H3 X.xe I3 (t R) Q stop) λr s4 ⟨V,I4⟩=>?_);subst V;exact Uf ⟨B,H3,I4,qn⟩
 ·refine Q8 O (thn (T.item X rfl rfl rfl hc i j s3 B H3 X.xe I3 (t R) Q go) λr s4 ⟨u,V,h4⟩=>?_);subst V;refine Q8 O (thn h4 λ_ s5 ⟨x,H5,I5,r5,y5,M,Y⟩=>?_);have Z:=I5.pinned (t Y) (T.obj _ _ M);refine Q8 O (thn (hg _ s5 B H5 x u _ Z r5 (step x H5 y5)) λ_ s6 ⟨a0,H6,I6,q6⟩=>?_);refine Q8 O (thn (q _ s6 a0 H6 _ I6 q6) λf s7 L=>?_);have C:∀{l:St}{E:Hp},Inv X (j++zkl P s5.heap) l E s7->N l E->∃m,m<n/\∃i z G,Inv X j z G s7/\tn i s7.heap/\(∀b∈P,G b=none)/\W i m z G:=λ{l E} F S=>by
   obtain⟨m',hm,w7⟩:=hN l E S
   refine⟨m',hm,i+1,l,E,F.unpinned,T.keep _ _ _ M λb q o e=>(F.pin (b,o) (Yk _ (Yk _ (zea q e)))).1,λb q=>?_,w7⟩
   obtain⟨o,e,d⟩:=T.obj _ _ M b q
   exact(F.pin (b,o) (Yk _ (Yk _ (zea q e)))).2.1
  cases f with
  |next=>obtain⟨l,E,F,S⟩:=L;exact C F S
  |cont=>obtain⟨l,E,F,S⟩:=L;exact C F S
  |brk=>obtain⟨l,E,F,L⟩:=L;exact⟨l,E,F.unpinned,L⟩
  |ret v=>obtain⟨x7,l,E,F,r7,L⟩:=L;exact⟨x7,l,E,F.unpinned,r7,L⟩
end
def zzi{o:Int}{n:Nat}{g:TG}{r:TS}{D:Ends}{d:St}{H:Hp}(f:Nat->St->Hp->Prop)(t:f 0 d H)
 (u:∀i d H,i<n->f i d H->g (.int (o+i)) d H λh q=>r {D with nx:=f (i+1),ct:=f (i+1),bk:=D.nx} h q)(v:∀d H,f n d H->D.nx d H):
  ∃W:Nat->Nat->St->Hp->Prop,(∃m,W 0 m d H)/\∀i m d H,W i m d H ->
   ((Itr o n).stop i H/\D.nx d H)\/((Itr o n).go i H/\∃N:St->Hp->Prop,(∀σ' j,N σ' j->∃s,s<m/\W (i+1) s σ' j)/\∀x j,(Itr o n).yld i H x j->g x d j λh q=>r {D with nx:=N,ct:=N,bk:=D.nx} h q):=by
 refine⟨λi m d H=>m=n-i/\i<=n/\f i d H,⟨n,by simp,Yr _,t⟩,?_⟩
 rintro i m d H ⟨rfl,z,p⟩
 by_cases l:i<n
 ·refine .inr ⟨l,f (i+1),λσ' j w=>⟨n-(i+1),by omega,rfl,l,w⟩,λx j y=>?_⟩;obtain⟨e,y⟩:=y
  subst e y;exact u i d _ l p
 ·have e:i=n:=by omega
  subst e;exact .inl ⟨Zl _,v d H p⟩
end L2
namespace L2
open PySem PySem.Spec PyProof.Rows
abbrev R2:=V->V->Hp->VK->Prop
def OpR(X:Cx)(f:Value->Value->Sem Value)(r:R2):Prop:=
 ∀(d:List (Addr×Obj)) (s:Shared) (e:St) (H:Hp) (x y:V) (v u:Value) (Q:VK),Inv X d e H s->RelV x v->RelV y u->r x y H Q ->
  wpAny (model X.prog X.w) X.A (f v u) (EP X d e Q) X.xe s
def UnR(X:Cx)(f:Value->Sem Value)(r:V->Hp->VK->Prop):Prop:=
 ∀(d:List (Addr×Obj)) (s:Shared) (e:St) (H:Hp) (x:V) (v:Value) (Q:VK),Inv X d e H s->RelV x v->r x H Q ->
  wpAny (model X.prog X.w) X.A (f v) (EP X d e Q) X.xe s
def zka(X:Cx)(f:Value)(r:List V->Hp->VK->Prop):Prop:=
 ∀(d:List (Addr×Obj)) (s:Shared) (e:St) (H:Hp) (g:List V) (h:List Value) (Q:VK),Inv X d e H s->Vals g h->r g H Q ->
  wpAny (model X.prog X.w) X.A (call f h) (EP X d e Q) X.xe s
def tOp(r:R2)(e f:TE):TE:=λd H Q=>e d H λx g=>f d g λy h=>r x y h Q
def tUn(r:V->Hp->VK->Prop)(d:TE):TE:=λe H Q=>d e H λx f=>r x f Q
def rI(C:Int->Int->Prop)(g:Int->Int->V):R2:=λx y H Q=>∃i j,x=.int i/\y=.int j/\C i j/\Q (g i j) H
def rI0(g:Int->Int->V):R2:=λx y H Q=>∃i j,x=.int i/\y=.int j/\Q (g i j) H
def rU(g:Int->V):V->Hp->VK->Prop:=λx H Q=>∃i,x=.int i/\Q (g i) H
section
variable{X:Cx}{a b c:Expr}{ta tb tc:TE}{pos:Pos}
def binT(n:PE X a ta)(o:PE X b tb){d:List (Addr×Obj)}{s:Shared}{e:St}{H:Hp}{R:V->V->Hp->Prop}(I:Inv X d e H s)
 (h:ta e H λx m=>tb e m λy g=>R x y g){Q:Value->Shared->Prop}{f:Value->Value->Sem Value}
 (p:∀v u l x y g,Inv X d e g l->RelV x v->RelV y u->R x y g->wpAny (model X.prog X.w) X.A (f v u) Q X.xe l):
  wpAny (model X.prog X.w) X.A (eval a X.env) (λv i=>wpAny (model X.prog X.w) X.A (eval b X.env) (λu j=>wpAny (model X.prog X.w) X.A (f v u) Q X.xe j) X.xe i) X.xe s:=by
 refine thn (n d s e H _ I h) λv q ⟨x,m,r,t,z⟩=>?_;refine thn (o d q e m _ r z) λu l ⟨y,g,B,C,D⟩=>?_;exact p v u l x y g B t C D
def yky{e:Operator}{r:R2}(f:OpR X (binaryOp e) r)(g:PE X a ta)(i:PE X b tb):PE X (.BinOp a e b pos) (tOp r ta tb):=by
 intro d s j H Q I h;exact wpAny_BinOp (binT g i I h λv u l x y m n o p q=>f d l j m x y v u Q n o p q)
def pe_un{e:UnaryOp}{r:V->Hp->VK->Prop}(g:UnR X (unaryOp e) r)(i:PE X a ta):PE X (.UnaryOp e a pos) (tUn r ta):=by
 intro d s f H Q I h;exact UnaryOp_ (thn (i d s f H _ I h) λv j ⟨x,l,m,n,o⟩=>g d j f l x v Q m n o)
def opI{f:Value->Value->Sem Value}{C:Int->Int->Prop}{g:Int->Int->Int}
 (d:∀(i j:Int) (t u:Tok) (s:Shared) (Q:Value->Shared->Prop) (E:Value->Shared->Prop),C i j->Q (.int (g i j) s.toks) {s with toks:=s.toks+1}->wpAny (model X.prog X.w) X.A (f (.int i t) (.int j u)) Q E s):
  OpR X f (rI C λi j=>.int (g i j)):=by
 intro e s p H x y v u Q I l m h;obtain⟨i,j,rfl,rfl,n,q⟩:=h
 obtain⟨t,rfl⟩:=l
 obtain⟨o,rfl⟩:=m
 exact d i j t o s _ _ n ⟨.int (g i j),H,I.tok _,⟨_,rfl⟩,q⟩
def opI0{f:Value->Value->Sem Value}{g:Int->Int->Int}
 (d:∀(i j:Int) (t u:Tok) (s:Shared) (Q:Value->Shared->Prop) (E:Value->Shared->Prop),Q (.int (g i j) s.toks) {s with toks:=s.toks+1}->wpAny (model X.prog X.w) X.A (f (.int i t) (.int j u)) Q E s):
  OpR X f (rI0 λi j=>.int (g i j)):=by
 intro e s o H x y v u Q I l m h;obtain⟨i,j,rfl,rfl,q⟩:=h
 obtain⟨t,rfl⟩:=l
 obtain⟨n,rfl⟩:=m
 exact d i j t n s _ _ ⟨.int (g i j),H,I.tok _,⟨_,rfl⟩,q⟩
def opB0{f:Value->Value->Sem Value}{g:Int->Int->Bool}
 (d:∀(i j:Int) (t u:Tok) (s:Shared) (Q:Value->Shared->Prop) (E:Value->Shared->Prop),Q (.bool (g i j)) s->wpAny (model X.prog X.w) X.A (f (.int i t) (.int j u)) Q E s):
  OpR X f (rI0 λi j=>.bl (g i j)):=by
 intro e s o H x y v u Q I l m h;obtain⟨i,j,rfl,rfl,q⟩:=h
 obtain⟨t,rfl⟩:=l
 obtain⟨n,rfl⟩:=m
 exact d i j t n s _ _ ⟨.bl (g i j),H,I,rfl,q⟩
def CPow(i j:Int):Prop:=0<=j/\j<=1000000/\i.natAbs<2^64
def op_add:OpR X (binaryOp .Add) (rI0 λi j=>.int (i+j)):=opI0 λ_ _ _ _ _ _ _ q=>add_int q
def op_sub:OpR X (binaryOp .Sub) (rI0 λi j=>.int (i-j)):=opI0 λ_ _ _ _ _ _ _ q=>sub_int q
def yli:OpR X (binaryOp .Mod) (rI (λ_ j=>j≠0) λi j=>.int (i.fmod j)):=opI λ_ _ _ _ _ _ _ d q=>mod_int' d q
def op_pow:OpR X (binaryOp .Pow) (rI CPow λi j=>.int (i^j.toNat)):=opI λ_ _ _ _ _ _ _ d q=>pow_int_small d.1 d.2.1 d.2.2 q
def unI{f:Value->Sem Value}{g:Int->Int}
 (d:∀(i:Int) (t:Tok) (s:Shared) (Q:Value->Shared->Prop) (E:Value->Shared->Prop),Q (.int (g i) s.toks) {s with toks:=s.toks+1}->wpAny (model X.prog X.w) X.A (f (.int i t)) Q E s):
  UnR X f (rU λi=>.int (g i)):=by
 intro e s l H x v Q I j h;obtain⟨i,rfl,q⟩:=h
 obtain⟨t,rfl⟩:=j
 exact d i t s _ _ ⟨.int (g i),H,I.tok _,⟨_,rfl⟩,q⟩
def un_neg:UnR X (unaryOp .USub) (rU λi=>.int (-i)):=unI λ_ _ _ _ _ q=>neg_int q
end
def scal:V->V->Bool
 |.non,.non=>true|.non,.int _=>true|.int _,.non=>true|.non,.bl _=>true|.bl _,.non=>true|.non,.str _=>true|.str _,.non=>true
 |.int _,.int _=>true|.bl _,.bl _=>true|.str _,.str _=>true|.byt _,.byt _=>true
 |.int _,.str _=>true|.str _,.int _=>true|.bl _,.str _=>true|.str _,.bl _=>true
 |_,_=>false
def rEq:R2:=λx y H Q=>scal x y=true/\Q (.bl (decide (x=y))) H
def rNe:R2:=λx y H Q=>scal x y=true/\Q (.bl (!decide (x=y))) H
def zmf{i j:Int}:decide (V.int i=V.int j)=(i == j):=by
 rw[Jc];simp
def zsz{i j:Bool}:decide (V.bl i=V.bl j)=(i == j):=by
 rw[Jc];simp
def zzw{i j:Str}:decide (V.str i=V.str j)=(i == j):=by
 rw[Jc];simp
def zzx{i j:Array UInt8}:decide (V.byt i=V.byt j)=(i.toList == j.toList):=by
 rw[Jc];cases i;cases j;simp
section
variable{X:Cx}{a b c:Expr}{ta tb tc:TE}{pos:Pos}
def zae{d:List (Addr×Obj)}{f:St}{H:Hp}{s:Shared}{Q:VK}{k g:Bool}(I:Inv X d f H s)(q:Q (.bl k) H)(e:k=g):EP X d f Q (.bool g) s:=by
 subst e;exact⟨.bl k,H,I,rfl,q⟩
def op_eq:OpR X (compareOp .Eq) rEq:=by
 intro l s m H x y v u Q I g d h;obtain⟨f,q⟩:=h
 cases x with
 |non=>
  cases g;cases y with
  |non=>cases d;exact PySem.EqNone.eq_none_none (zae I q vC)
  |bl j=>cases d;exact PySem.EqNone.eq_none_bool (zae I q vC)
  |int j=>obtain⟨e,rfl⟩:=d;exact PySem.EqNone.eq_none_int (zae I q vC)
  |str j=>obtain⟨e,rfl⟩:=d;exact PySem.EqNone.eq_none_str (zae I q vC)
  |_=>exact absurd (show false=true from f) Zw
 |bl i=>
  cases g;cases y with
  |non=>cases d;exact PySem.EqNone.eq_bool_none (zae I q vC)
  |bl j=>cases d;exact eq_bool (zae I q zsz)
  |str j=>obtain⟨e,rfl⟩:=d;exact PySem.EqMixed.eq_bool_str (zae I q vC)
  |_=>exact absurd (show false=true from f) Zw
 |int i=>
  obtain⟨t,rfl⟩:=g
  cases y with
  |non=>cases d;exact PySem.EqNone.eq_int_none (zae I q vC)
  |int j=>obtain⟨e,rfl⟩:=d;exact eq_int (zae I q zmf)
  |str j=>obtain⟨e,rfl⟩:=d;exact PySem.EqMixed.eq_int_str (zae I q vC)
  |_=>exact absurd (show false=true from f) Zw
 |str i=>
  obtain⟨t,rfl⟩:=g
  cases y with
  |non=>cases d;exact PySem.EqNone.eq_str_none (zae I q vC)
  |bl j=>cases d;exact PySem.EqMixed.eq_str_bool (zae I q vC)
  |int j=>obtain⟨e,rfl⟩:=d;exact PySem.EqMixed.eq_str_int (zae I q vC)
  |str j=>obtain⟨e,rfl⟩:=d;exact eq_str (zae I q zzw)
  |_=>exact absurd (show false=true from f) Zw
 |byt i=>
  obtain⟨t,rfl⟩:=g
  cases y with
  |byt j=>obtain⟨e,rfl⟩:=d;exact PySem.W.eq_bytes (zae I q zzx)
  |_=>exact absurd (show false=true from f) Zw
 |_=>cases y<;>exact absurd (show false=true from f) Zw
def op_ne:OpR X (compareOp .NotEq) rNe:=by
 intro l s m H x y v u Q I g d h;obtain⟨f,q⟩:=h
 cases x with
 |non=>
  cases g;cases y with
  |non=>cases d;exact PySem.EqNone.ne_none_none (zae I q vC)
  |bl j=>cases d;exact PySem.EqNone.ne_none_bool (zae I q vC)
  |int j=>obtain⟨e,rfl⟩:=d;exact PySem.EqNone.ne_none_int (zae I q vC)
  |str j=>obtain⟨e,rfl⟩:=d;exact PySem.EqNone.ne_none_str (zae I q vC)
  |_=>exact absurd (show false=true from f) Zw
 |bl i=>
  cases g;cases y with
  |non=>cases d;exact PySem.EqNone.ne_bool_none (zae I q vC)
  |bl j=>cases d;exact ne_bool (zae I q (congrArg not zsz))
  |str j=>obtain⟨e,rfl⟩:=d;exact PySem.EqMixed.ne_bool_str (zae I q vC)
  |_=>exact absurd (show false=true from f) Zw
 |int i=>
  obtain⟨t,rfl⟩:=g
  cases y with
  |non=>cases d;exact PySem.EqNone.ne_int_none (zae I q vC)
  |int j=>obtain⟨e,rfl⟩:=d;exact ne_int (zae I q (congrArg not zmf))
  |str j=>obtain⟨e,rfl⟩:=d;exact PySem.EqMixed.ne_int_str (zae I q vC)
  |_=>exact absurd (show false=true from f) Zw
 |str i=>
  obtain⟨t,rfl⟩:=g
  cases y with
  |non=>cases d;exact PySem.EqNone.ne_str_none (zae I q vC)
  |bl j=>cases d;exact PySem.EqMixed.ne_str_bool (zae I q vC)
  |int j=>obtain⟨e,rfl⟩:=d;exact PySem.EqMixed.ne_str_int (zae I q vC)
  |str j=>obtain⟨e,rfl⟩:=d;exact ne_str (zae I q (congrArg not zzw))
  |_=>exact absurd (show false=true from f) Zw
 |byt i=>
  obtain⟨t,rfl⟩:=g
  cases y with
  |byt j=>obtain⟨e,rfl⟩:=d;exact PySem.W.ne_bytes (zae I q (congrArg not zzx))
  |_=>exact absurd (show false=true from f) Zw
 |_=>cases y<;>exact absurd (show false=true from f) Zw
def op_lt:OpR X (compareOp .Lt) (rI0 λi j=>.bl (decide (i<j))):=opB0 λ_ _ _ _ _ _ _ q=>lt_int q
def op_le:OpR X (compareOp .LtE) (rI0 λi j=>.bl (decide (i<=j))):=opB0 λ_ _ _ _ _ _ _ q=>le_int q
def op_gt:OpR X (compareOp .Gt) (rI0 λi j=>.bl (decide (j<i))):=opB0 λ_ _ _ _ _ _ _ q=>gt_int q
def op_ge:OpR X (compareOp .GtE) (rI0 λi j=>.bl (decide (j<=i))):=opB0 λ_ _ _ _ _ _ _ q=>ge_int q
def op_isN:OpR X (compareOp .Is) (λx y H Q=>y=.non/\Q (.bl (decide (x=.non))) H):=by
 intro d s g H x y v u Q I e f h;obtain⟨rfl,q⟩:=h
 cases f;refine is_none_gen (zae I q ?_);cases x<;>first
  |(cases e;rfl)
  |(obtain⟨t,rfl⟩:=e;rfl)
def ylh:OpR X (compareOp .IsNot) (λx y H Q=>y=.non/\Q (.bl (!decide (x=.non))) H):=by
 intro d s g H x y v u Q I e f h;obtain⟨rfl,q⟩:=h
 cases f;refine isnot_none_gen (zae I q ?_);cases x<;>first
  |(cases e;rfl)
  |(obtain⟨t,rfl⟩:=e;rfl)
def yla{e:CmpOp}{r:R2}(f:OpR X (compareOp e) r)(g:PE X a ta)(i:PE X b tb)(j:behindInMarks e b=false):PE X (.Compare a [e] [b] pos) (tOp r ta tb):=by
 intro d s l H Q I h;exact wpAny_Compare1 (binT g i I h λv u m x y n o p t q=>f d m l n x y v u Q o p t q) j
def tTest(t:TE):TT:=λd H Q=>t d H λx e=>∃k,x=.bl k/\Q k e
def yku{f:CmpOp}{r:R2}(i:OpR X (compareOp f) r)(j:PE X a ta)(l:PE X b tb)(m:behindInMarks f b=false):PT X (.Compare a [f] [b] pos) (tTest (tOp r ta tb)):=by
 intro d s g H Q I h;refine wpAny_isTrue_Compare1 (thn (j d s g H _ I h) λv n ⟨x,o,p,q,t⟩=>thn (l d n g o _ p t) λu w ⟨y,A,B,C,D⟩=>
  thn (i d w g A x y v u _ B q C D) λc J ⟨z,H3,E,F,k,e,G⟩=>?_) m
 subst e;cases F;exact Kd ⟨H3,E,G⟩
def zsl:(sizeLine:Nat)<2^63:=by rw[K6];decide
def zkt{x:V}{d:List Value}(r:Vals [x] d):∃u,d=[u]/\RelV x u:=by
 cases r with
 |cons e f=>cases f;exact⟨_,rfl,e⟩
def yiw{x y:V}{d:List Value}(r:Vals [x,y] d):∃u e,d=[u,e]/\RelV x u/\RelV y e:=by
 cases r with
 |cons f g=>
  cases g with
  |cons h i=>cases i;exact⟨_,_,rfl,f,h⟩
def yfq:zka X (.builtin "abs") (λd H Q=>∃i,d=[.int i]/\Q (.int (if i<0 then -i else i)) H):=by
 intro e s f H d g Q I r h;obtain⟨i,rfl,q⟩:=h
 obtain⟨u,rfl,t,rfl⟩:=zkt r
 exact call_abs_int λu j=>⟨.int (if i<0 then -i else i),H,I.tok _,⟨_,rfl⟩,q⟩
def yam(g:X.calm=true):zka X (.builtin "max") (λe H Q=>∃i j,e=[.int i,.int j]/\Q (.int (if j > i then j else i)) H):=by
 intro f s l H e m Q I r h;obtain⟨i,j,rfl,q⟩:=h
 obtain⟨u,n,rfl,⟨t,rfl⟩,⟨o,rfl⟩⟩:=yiw r
 refine max_two_ints (I.ok.hd g) λp v k=>⟨_,H,I.kept k,?_,q⟩
 by_cases d:j > i
 ·rw[if_pos d,if_pos d];exact⟨_,rfl⟩
 ·rw[if_neg d,if_neg d];exact⟨_,rfl⟩
def yak(g:X.calm=true):zka X (.builtin "min") (λe H Q=>∃i j,e=[.int i,.int j]/\Q (.int (if j<i then j else i)) H):=by
 intro f s l H e m Q I r h;obtain⟨i,j,rfl,q⟩:=h
 obtain⟨u,n,rfl,⟨t,rfl⟩,⟨o,rfl⟩⟩:=yiw r
 refine min_two_ints (I.ok.hd g) λp v k=>⟨_,H,I.kept k,?_,q⟩
 by_cases d:j<i
 ·rw[if_pos d,if_pos d];exact⟨_,rfl⟩
 ·rw[if_neg d,if_neg d];exact⟨_,rfl⟩
end
end L2
namespace L2
open PySem PySem.Spec PyProof.Rows
structure ObjM(h:Heap)(x dx C:Addr)(mA:Str->Option Value):Prop where
 obj:h.get? x=some (PySem.W.instObj C dx)
 ns:h.Ns1 dx mA
 ne:dx≠x
def zyn{h:Heap}{f:Addr}{g:Str->Option Value}(n:h.Ns1 f g):∃i,h.get? f=some i/\∀name,PySem.W.lookIn name i=some (g name):=by
 obtain⟨o,j,v,l,m,p,_,r⟩:=n
 refine⟨o,l,λname=>?_⟩
 have e:=r name;unfold nsFind findBy at e;rw[<-Array.find?_toList] at e;unfold PySem.W.lookIn;rw[m];dsimp only;split
 ·rename_i y q;rw[q] at e;exact congrArg some e
 ·rename_i q;rw[q] at e;have a:j.toList.any (·.refKey)=false:=by
   rw[List.any_eq_false];intro y s;obtain⟨z,t,d⟩:=p y (J2.mp s)
   simp[DictEntry.refKey,d]
  have u:¬j.toList.any (·.refKey)=true:=by rw[a];exact Zw
  rw[if_neg u];exact congrArg some e
def ObjM.look{h:Heap}{x dx C:Addr}{mA:Str->Option Value}(I:ObjM h x dx C mA):∃d,PySem.W.InstAt h x (PySem.W.instObj C dx) C (some d)/\∀name,PySem.W.lookIn name d=some (mA name):=
 let ⟨d,e,f⟩:=zyn I.ns
 ⟨d,⟨I.obj,rfl,rfl,e⟩,f⟩
section
variable{prog:Program}{w:World}{A:Around}{E:Value->Shared->Prop}{s:Shared}{K:vE}{x dx C f:Addr}{mA:Str->Option Value}{name:Str}{v:Value}
def ymr{d:Bool}{Q:Value->Shared->Prop}(X:K.In s.heap)(I:ObjM s.heap x dx C mA)(f:PySem.W.plainGet K C name=true)(g:PySem.W.hasDictIn K C=true)
 (i:PySem.W.findIn K (.ref C) name=some none)(j:mA name=some v)(e:PySem.W.handedIn v=true)(h:Q v {s with toks:=s.toks+1}):
  wpAny (model prog w) A (getAttr (.ref x) name d) Q E s:=by
 obtain⟨m,J,l⟩:=I.look
 exact PySem.W.get_value X J (PySem.W.plainGet_of f).1 (PySem.W.findObj_own g i rfl (by rw[l,j])) e h
def yjx{m:List Str}{Q:Unit->Shared->Prop}(X:K.In s.heap)(I:ObjM s.heap x dx C mA)
 (n:PySem.W.findIn K (.ref C) "__setattr__" = some (some (.builtin "object.__setattr__")))(o:PySem.W.plainOver K C=true)(p:PySem.W.takerIn K C name=some none)(q:PySem.W.hasDictIn K C=true)
 (t:PySem.Within mA m)(u:m.length<=sizeLine)
 (h:∀f,ObjM f x dx C (λy=>if y=name then some v else mA y)->Heap.SameBut dx s.heap f->Q () {s with heap:=f,toks:=s.toks+2}):
  wpAny (model prog w) A (setAttr (.ref x) name v) Q E s:=by
 obtain⟨G,J,H⟩:=I.look
 refine PySem.W.set_plain X J n (PySem.W.osa_open (s:={s with toks:=s.toks+1}) (r:=none) X J o p λb=>?_);obtain⟨L,z,g⟩:=PySem.W.any_some q
 have B:s.heap.get? x=some ⟨.ref C,some dx,.plain,#[]⟩:=I.obj;refine Zd (Zs (Zd (Zd (wpAny_loadPart B (Zd (PySem.W.Looks.here (s:={s with toks:=s.toks+1}) (PySem.W.looks_clsIn X z) ?_))))));rw[g];refine Zs (a:=some dx) (Zd (Zs (Zd ?_)));refine wpAny_nsSet1 (s:={s with toks:=s.toks+1}) I.ns λf d e=>?_;obtain⟨M,D,F,i,j,l⟩:=d.count (PySem.Within.cons name v t)
 refine Zd (wpAny_lookBehind i (by rw[j];exact pastItsLine_dict (Wg l (by rw[Zv];omega))) ?_);exact Zs (h _ ⟨(e.2 _ (W5 I.ne)).trans I.obj,d,I.ne⟩ e)
def yef{R:Result->Shared->Prop}{e:List Value}{i:List (Str×Value)}(X:K.In s.heap)(j:PySem.W.makesIn K C=true)
 (l:PySem.W.findIn K (.ref C) "__init__" = some (some (.ref f)))(m:PySem.W.typeIn K (.ref f)=some (.type "function"))
 (h:codeAny (model prog w) (A.under (.builtin "type.__call__" ⟨.ref C::e,i⟩)) (.call (.ref f) ⟨.ref (s.heap.objs.size+1)::e,i⟩) (PySem.W.InitBack (s.heap.objs.size+1) R)
   {s with heap:=(s.heap.push PySem.W.emptyDict).push (PySem.W.instObj C s.heap.objs.size)}):
  codeAny (model prog w) A (.call (.ref C) ⟨e,i⟩) R s:=by
 obtain⟨n,g,d,t,os⟩:=s
 exact PySem.W.make_core (PySem.W.makes_of X j) (PySem.W.looks_findIn X l) (λself=>PySem.W.bind_fn X self m) (.inl rfl) h
end
def putF(f:Str)(v:V):List (Str×V)->List (Str×V)
 |[]=>[(f,v)]
 |(g,x)::r=>if g=f then(g,v)::r else(g,x)::putF f v r
theorem zja(f g:Str)(v:V):∀j:List (Str×V),(putF f v j).lookup g=if g=f then some v else j.lookup g
 |[]=>by
  show List.lookup g [(f,v)]=_;by_cases h:g=f
  ·have d:(g == f)=true:=beq_iff_eq.mpr h;simp only[List.lookup,d,if_pos h]
  ·have d:(g == f)=false:=beq_eq_false_iff_ne.mpr h;simp only[List.lookup,d,if_neg h]
 |(k,x)::r=>by
  have l:=zja f g v r;rw[show putF f v ((k,x)::r)=(if k=f then(k,v)::r else(k,x)::putF f v r) from rfl];by_cases i:k=f
  ·rw[if_pos i];by_cases h:g=k
   ·have d:(g == k)=true:=beq_iff_eq.mpr h;simp only[List.lookup,d,if_pos (h.trans i)]
   ·have d:(g == k)=false:=beq_eq_false_iff_ne.mpr h;simp only[List.lookup,d,if_neg (λe:g=f=>h (e.trans i.symm))]
  ·rw[if_neg i];by_cases h:g=k
   ·have d:(g == k)=true:=beq_iff_eq.mpr h;simp only[List.lookup,d,if_neg (λe:g=f=>i (h.symm.trans e))]
   ·have d:(g == k)=false:=beq_eq_false_iff_ne.mpr h;simp only[List.lookup,d];exact l
theorem zjc(f:Str)(v:V):∀d:List (Str×V),f∈(putF f v d).map (·.1)/\∀g,g∈d.map (·.1)->g∈(putF f v d).map (·.1)
 |[]=>⟨by simp[putF],λg h=>by simp at h⟩
 |(k,x)::r=>by
  obtain⟨j,l⟩:=zjc f v r
  rw[show putF f v ((k,x)::r)=(if k=f then(k,v)::r else(k,x)::putF f v r) from rfl];by_cases i:k=f
  ·rw[if_pos i];subst i;exact⟨by simp,λg h=>by simpa using h⟩
  ·rw[if_neg i];refine⟨?_,λg h=>?_⟩
   ·rw[Zx];exact Yw _ j
   ·rw[Zx] at h |-;rcases Zh.mp h with e|e
    ·exact Zh.mpr (.inl e)
    ·exact Yw _ (l g e)
theorem zcg(f:Str)(v:V):∀d:List (Str×V),(putF f v d).length<=d.length+1
 |[]=>by simp[putF]
 |(k,x)::r=>by
  have g:=zcg f v r;rw[show putF f v ((k,x)::r)=(if k=f then(k,v)::r else(k,x)::putF f v r) from rfl];by_cases e:k=f
  ·rw[if_pos e,Zv,Zv];omega
  ·rw[if_neg e,Zv,Zv];omega
def RelO.some_of{v:V}{o:Option Value}(r:RelO (some v) o):∃u,o=some u/\RelV v u:=by
 cases o with
 |none=>exact(show False from r).elim
 |some u=>exact⟨u,rfl,r⟩
def zzb{v:V}{u:Value}(r:RelV v u):PySem.W.handedIn u=true:=by
 cases v with
 |non=>cases(show u=Value.none from r);rfl
 |bl b=>cases(show u=Value.bool b from r);rfl
 |int i=>obtain⟨t,e⟩:=(show ∃t,u=Value.int i t from r);cases e;rfl
 |str x=>obtain⟨t,e⟩:=(show ∃t,u=Value.str x t from r);cases e;rfl
 |byt b=>obtain⟨t,e⟩:=(show ∃t,u=Value.bytes b t from r);cases e;rfl
 |flt b=>obtain⟨t,e⟩:=(show ∃t,u=Value.float b t from r);cases e;rfl
 |ref a=>cases(show u=Value.ref a from r);rfl
 |ty n=>cases(show u=Value.type n from r);rfl
section
variable{P:Program}{w:World}{H H':Hp}{h h':Heap}{a C dx:Addr}{fs fs':List (Str×V)}
def zyu(i:HOk P w H h)(e:H a=some (.ins C dx fs)):∃g,ObjM h a dx C g/\(∀f,RelO (fs.lookup f) (g f))/\PySem.Within g (fs.map (·.1))/\fs.length<=1000/\H dx=some (.own a):=by
 obtain⟨d,z,j,l,g,n,r,q⟩:=(show ObjOk P w H h a (.ins C dx fs) from i a _ e)
 exact⟨g,⟨l,n,j⟩,r,q,z,d⟩
end
structure Cls(K:vE)(C:Addr):Prop where
 pg:PySem.W.plainGet K C Str.empty=true
 hd:PySem.W.hasDictIn K C=true
 po:PySem.W.plainOver K C=true
 sa:PySem.W.findIn K (.ref C) "__setattr__" = some (some (.builtin "object.__setattr__"))
def Cls.get{K:vE}{C:Addr}(c:Cls K C)(f:Str):PySem.W.plainGet K C f=true:=c.pg
def NoAttr(K:vE)(C:Addr)(f:Str):Prop:=PySem.W.findIn K (.ref C) f=some none
def NoAttr.taker{K:vE}{C:Addr}{f:Str}(n:NoAttr K C f):PySem.W.takerIn K C f=some none:=by
 unfold PySem.W.takerIn;rw[show PySem.W.findIn K (.ref C) f=some none from n];rfl
section
variable{X:Cx}{pins:List (Addr×Obj)}{σ:St}{H:Hp}{s:Shared}{a C dx:Addr}{fs:List (Str×V)}{f:Str}{v:V}{A:Around}{E:Value->Shared->Prop}
def zut{b:Bool}{Q:Value->Shared->Prop}(I:Inv X pins σ H s)(e:H a=some (.ins C dx fs))(c:Cls X.K C)(n:NoAttr X.K C f)(l:fs.lookup f=some v)
 (h:∀u d,Inv X pins σ H d->RelV v u->Q u d):wpAny (model X.prog X.w) A (getAttr (.ref a) f b) Q E s:=by
 obtain⟨i,O,r,_,_,_⟩:=zyu I.hok e
 obtain⟨u,j,g⟩:=RelO.some_of (v:=v) (o:=i f) (by rw[<-l];exact r f)
 exact ymr I.kIn O (c.get f) c.hd n j (zzb g) (h u _ (I.tok _) g)
def zug{y:V}{u:Value}{Q:Unit->Shared->Prop}(I:Inv X pins σ H s)(e:H a=some (.ins C dx fs))(c:Cls X.K C)(n:NoAttr X.K C f)(L:fs.length<1000)(p:RelV y u)
 (h:∀i,Inv X pins σ (upd H a (.ins C dx (putF f y fs))) i->Q () i):wpAny (model X.prog X.w) A (setAttr (.ref a) f u) Q E s:=by
 obtain⟨j,O,r,l,_,m⟩:=zyu I.hok e
 have t:(fs.map (·.1)).length<=sizeLine:=by rw[Zc,K6];omega
 refine yjx I.kIn O c.sa c.po n.taker c.hd l t λv d B=>h _ ?_
 have D:∃o,v.get? dx=some o:=let ⟨o,_,_,F,_⟩:=d.ns;⟨o,F⟩;refine I.write (x:=a) (e:=dx) (by rw[e];exact True.intro) (.inr m) (λb q G z=>(B.2 b G).trans z) D ?_;refine⟨by rw[Bo O.ne];exact m,?_,O.ne,d.obj,_,d.ns,λg=>?_,λg J=>?_⟩
 ·have:=zcg f y fs;omega
 ·show RelO ((putF f y fs).lookup g) (if g=f then some u else j g);rw[zja];by_cases q:g=f
  ·rw[if_pos q,if_pos q];exact p
  ·rw[if_neg q,if_neg q];exact r g
 ·by_cases q:g=f
  ·rw[q];exact(zjc f y fs).1
  ·refine(zjc f y fs).2 g (l g λz=>J ?_);show(if g=f then some u else j g)=none;rw[if_neg q];exact z
def Inv.made(I:Inv X pins σ H s):Inv X pins σ (upd (upd H s.heap.objs.size (.own (s.heap.objs.size+1))) (s.heap.objs.size+1) (.ins C s.heap.objs.size []))
  {s with heap:=(s.heap.push PySem.W.emptyDict).push (PySem.W.instObj C s.heap.objs.size)}:=by
 have d:(s.heap.push PySem.W.emptyDict).get? s.heap.objs.size=some PySem.W.emptyDict:=Zy s.heap rfl;have g:((s.heap.push PySem.W.emptyDict).push (PySem.W.instObj C s.heap.objs.size)).get? (s.heap.objs.size+1)=some (PySem.W.instObj C s.heap.objs.size):=by
  have:=Zy (s.heap.push PySem.W.emptyDict) (o:=PySem.W.instObj C s.heap.objs.size) rfl
  rwa [Qw] at this
 have h:(s.heap.push PySem.W.emptyDict).Ns s.heap.objs.size (λ_=>none):=⟨PySem.W.emptyDict,#[],_,d,rfl,(λe i=>absurd i vC),λ_=>rfl⟩;have j:=I.laid (a:=s.heap.objs.size) (o:=.own (s.heap.objs.size+1)) (h':=s.heap.push PySem.W.emptyDict) (t':=s.toks) (λb u q=>Zf _ q) (Zl _) ⟨_,d⟩;refine j.laid (a:=s.heap.objs.size+1) (o:=.ins C s.heap.objs.size []) (t':=s.toks) (λb u q=>Zf _ q) (Ge (Qw _ _)) ?_;have f:s.heap.objs.size≠s.heap.objs.size+1:=Yh (Wz _);refine⟨by rw[Bo f,Bs],Yr _,f,g,λ_=>none,(Heap.Ns1.of_empty h).at λo q=>Zf _ q,λ_=>True.intro,λy l=>absurd rfl l⟩
def yos{d:Program}{w:World}{env:Env}{e:Expr}{f:Str}{pos:Pos}{s:Shared}{Q:Value->Shared->Prop}(i:attributeBase e f env (eval e env)=eval e env)
 (h:wpAny (model d w) A (eval e env) (λo g=>wpAny (model d w) A (getAttr o f true) Q E g) E s):wpAny (model d w) A (eval (.Attribute e f pos) env) Q E s:=
 Attribute_any_ h (by rw[arm_eval_Attribute,i])
end
def tFld(K:vE)(g:TE)(f:Str):TE:=λh H Q=>g h H λx d=>∃a C i e v,x=.ref a/\d a=some (.ins C i e)/\Cls K C/\NoAttr K C f/\e.lookup f=some v/\Q v d
def sFld(K:vE)(i j:TE)(f:Str):TS:=λD d H=>j d H λy l=>i d l λx g=>∃a C h e,x=.ref a/\g a=some (.ins C h e)/\Cls K C/\NoAttr K C f/\e.length<1000 /\
 D.nx d (upd g a (.ins C h (putF f y e)))
section
variable{X:Cx}{o e value:Expr}{f:Str}{pos pos' tpos:Pos}{ta tv:TE}
def pe_fld(g:PE X e ta)(i:attributeBase e f X.env (eval e X.env)=eval e X.env):PE X (.Attribute e f pos) (tFld X.K ta f):=by
 intro d s j H Q I h;refine yos i (thn (g d s j H _ I h) λu z ⟨x,m,o,p,a,C,A,B,v,ex,r,c,n,l,q⟩=>?_);subst ex;obtain rfl:u=Value.ref a:=p;exact zut o r c n l λD E t w=>⟨v,m,t,w,q⟩
def znq(g:PE X o ta)(i:PE X value tv)(j:swapsWith value (some (.Attribute o f pos')) pos.line X.env=pure false):PS X (.Assign [.Attribute o f pos'] value pos) (sFld X.K ta tv f):=by
 intro d s e H D I h;refine plainObj_wpAny_Assign_Attribute (thn (i d s e H _ I h) λu m ⟨y,p,r,t,q⟩=>thn (g d m e p _ r q) λv F ⟨x,G,w,z,a,C,J,L,ex,A,c,n,l,B⟩=>?_) j;subst ex;obtain rfl:v=Value.ref a:=z;exact zug w A c n l t λM E=>⟨e,_,E,B⟩
end
section
variable{X:Cx}{pins:List (Addr×Obj)}{σ:St}{H:Hp}{s:Shared}{A:Around}{E:Value->Shared->Prop}{Q:Value->Shared->Prop}{c:Value}{b:Bool}
end
end L2
namespace L2
open PySem PySem.Spec PyProof.Rows
structure Room(k:Nat)(A:Around):Prop where
 hd:A.handled=none
 dp:A.depth+3*k+5<recursionLimit
 un:A.units+16*k+200<cLine
def Room.mono{j k:Nat}{A:Around}(r:Room k A)(h:j<=k):Room j A:=⟨r.hd,by have:=r.dp;omega,by have:=r.un;omega⟩
theorem Room.deeper{k:Nat}{A:Around}(r:Room (k+1) A)(env:Env):Room k (A.deeper env):=
 ⟨r.hd,by have:=r.dp;show A.depth+1+3*k+5<_;omega,by have:=r.un;show A.units+3+16*k+200<_;omega⟩
def zur{A:Around}{C:Addr}{d:List Value}{e:List (Str×Value)}:(A.under (.builtin "type.__call__" ⟨.ref C::d,e⟩)).depth=A.depth+1:=by
 first|rfl|simp[Around.under,Code.weight,Code.isCreation,Code.isGuard,Code.isCaller,Code.frames,Code.isFrame,guardIds]
def zuq{A:Around}{C:Addr}{d:List Value}{e:List (Str×Value)}:(A.under (.builtin "type.__call__" ⟨.ref C::d,e⟩)).units=A.units+1:=by
 first|rfl|simp[Around.under,Code.cUnits,Code.frames,Code.isFrame]
def Room.make{k:Nat}{A:Around}(r:Room (k+1) A)(C:Addr)(d:List Value)(e:List (Str×Value)):Room k (A.under (.builtin "type.__call__" ⟨.ref C::d,e⟩)):=
 ⟨r.hd,by have:=r.dp;rw[zur];omega,by have:=r.un;rw[zuq];omega⟩
theorem Room.depth{k:Nat}{A:Around}(r:Room k A):A.depth<recursionLimit:=by have:=r.dp;omega
theorem Room.units{k:Nat}{A:Around}(r:Room k A):A.units+64<cLine:=by have:=r.un;omega
def tNil:TA:=λ_ H Q=>Q [] H
def zic(e:TE)(f:TA):TA:=λd H Q=>e d H λx g=>f d g λh i=>Q (x::h) i
section
variable{X:Cx}{e:Expr}{es:List Expr}{te:TE}{t:TA}{pos:Pos}
def zgk:PA X [] tNil:=λ_ _ _ _ H Q I h=>Gx ⟨[],H,I,.nil,h⟩
def zda(g:PE X e te)(i:PA X es t)(j:starEach (e::es) X.env=(false,eval e X.env)::starEach es X.env:=by rfl):PA X (e::es) (zic te t):=by
 intro pos d s f H Q I h;rw[j];show wpAny _ _ (spliced ((false,eval e X.env)::backTo pos (starEach es X.env))) _ _ s;refine Gm (thn (g d s f H _ I h) λu l ⟨x,m,n,o,p⟩=>?_);exact thn (i pos d l f m _ n p) λA B ⟨q,r,v,w,z⟩=>⟨x::q,r,v,.cons o w,z⟩
def tTup(t:TA):TE:=λf H Q=>t f H λd e=>d.length<=sizeLine/\∀p,e p=none->Q (.ref p) (upd e p (.tup d))
def tLst(t:TA):TE:=λf H Q=>t f H λd e=>d.length<=sizeLine/\∀p,e p=none->Q (.ref p) (upd e p (.lst d))
def pe_tup{j}(h:PA X es t):PE X (.Tuple es j pos) (tTup t):=by
 intro d s l H Q I m;refine wpAny_Tuple_spliced (thn (h pos d s l H _ I m) λn f ⟨o,g,i,r,z,q⟩=>⟨by rw[<-r.length];exact z,?_⟩);have p:g f.heap.objs.size=none:=i.hok.fresh (Zl _);refine⟨.ref f.heap.objs.size,upd g f.heap.objs.size (.tup o),i.laid (t':=f.toks) (λb u e=>Zf _ e) (Zl _) ?_,rfl,q _ p⟩
 exact⟨z,n,r,⟨_,Zy _ rfl,rfl,_,rfl⟩⟩
def zxq(h:PA X es t):PE X (.List es pos) (tLst t):=by
 intro d s j H Q I l;refine wpAny_List_spliced (thn (h pos d s j H _ I l) λm f ⟨n,g,i,r,z,q⟩=>⟨by rw[<-r.length];exact z,?_⟩);have o:g f.heap.objs.size=none:=i.hok.fresh (Zl _);refine⟨.ref f.heap.objs.size,upd g f.heap.objs.size (.lst n),i.laid (t':=f.toks) (λb u e=>Zf _ e) (Zl _) ?_,rfl,q _ o⟩
 exact⟨z,m,0,r,Zy _ rfl⟩
end
abbrev Sp:=List V->Hp->VK->XK->Prop
abbrev CXT:=List Env->Hp->Shared->XK->Value->Shared->Prop
structure Env0(P:Program)(w:World)(K:vE)(mg:Str->Option Value)(base:Heap)(A:Around)(outer:List Env)(s:Shared)(H:Hp):Prop where
 frames:A.frames=some outer
 mod:Mod K mg base
 bs:∀b o,base.get? b=some o->s.heap.get? b=some o/\H b=none
 bsz:base.objs.size<=s.heap.objs.size
 funs:s.heap.FunFrames base outer
 frf:∀b∈frs outer,H b=none
 hok:HOk P w H s.heap
 bare:AllBare s.gens
def CE(outer:List Env)(P:Program)(w:World)(H:Hp)(s:Shared)(Q:VK)(u:Value)(d:Shared):Prop:=
 ∃v e,d.os=s.os/\AllBare d.gens/\Un (frs outer) [] H e s.heap d.heap/\HOk P w e d.heap/\RelV v u/\Q v e
def CR(f:CXT)(outer:List Env)(P:Program)(w:World)(H:Hp)(s:Shared)(Q:VK)(E:XK)(r:Result)(d:Shared):Prop:=
 match r with
 |.ok (.ret u)=>CE outer P w H s Q u d
 |.ok _=>False
 |.error e=>f outer H s E e d
structure FnOk(P:Program)(w:World)(K:vE)(mg:Str->Option Value)(base:Heap)(CX:CXT)(k:Nat)(f:Addr)(fd:FuncData)(ps:List Str)(sp:Sp):Prop where
 len:∀vs H Q E,sp vs H Q E->vs.length=ps.length
 run:∀(A:Around) (outer:List Env) (s:Shared) (H:Hp) (args:Args) (us:List Value) (vs:List V) (Q:VK) (E:XK),Room k A->Env0 P w K mg base A outer s H->BindsTo s fd args (ps.zip us)->Vals vs us->sp vs H Q E ->
  codeAny (model P w) A (.call (.ref f) args) (CR CX outer P w H s Q E) s
theorem FnOk.mono{P:Program}{w:World}{K:vE}{mg:Str->Option Value}{base:Heap}{CX:CXT}{j k:Nat}{f:Addr}{fd:FuncData}{ps:List Str}{sp:Sp}(F:FnOk P w K mg base CX j f fd ps sp)(h:j<=k):
  FnOk P w K mg base CX k f fd ps sp:=⟨F.len,λA outer s H args us vs Q E d=>F.run A outer s H args us vs Q E (d.mono h)⟩
def FnOk.imp{P:Program}{w:World}{K:vE}{mg:Str->Option Value}{base:Heap}{CX:CXT}{k:Nat}{f:Addr}{fd:FuncData}{ps:List Str}{sp d:Sp}(F:FnOk P w K mg base CX k f fd ps sp)
 (h:∀vs H Q E,d vs H Q E->sp vs H Q E):FnOk P w K mg base CX k f fd ps d:=
 ⟨λvs H Q E q=>F.len vs H Q E (h _ _ _ _ q),λA outer s H args us vs Q E e g i j l=>F.run A outer s H args us vs Q E e g i j (h _ _ _ _ l)⟩
def Env0.make{P:Program}{w:World}{K:vE}{mg:Str->Option Value}{base:Heap}{A:Around}{outer:List Env}{s:Shared}{H:Hp}(e:Env0 P w K mg base A outer s H)(C:Addr)(d:List Value)(f:List (Str×Value)):
  Env0 P w K mg base (A.under (.builtin "type.__call__" ⟨.ref C::d,f⟩)) outer s H:=⟨by first|exact e.frames|(simpa[Around.under,Code.envs,Code.isFrame,pushEnvs] using e.frames),e.mod,e.bs,e.bsz,e.funs,e.frf,e.hok,e.bare⟩
section
variable{X:Cx}{pins:List (Addr×Obj)}{σ:St}{H:Hp}{s s':Shared}
def Inv.env0(I:Inv X pins σ H s):Env0 X.prog X.w X.K X.mg X.base X.A X.stack s H:=
 ⟨I.ok.frames,I.ok.mod,I.bs,Wg I.ok.bsz I.sz,I.stack,I.stkFree,I.hok,I.bare⟩
def Inv.after{Q:VK}{u:Value}(I:Inv X pins σ H s)(h:CE X.stack X.prog X.w H s Q u s'):EP X pins σ Q u s':=by
 obtain⟨v,f,os,bare,un,hok,r,q⟩:=h
 obtain⟨i,g,d,t,e⟩:=s'
 obtain rfl:e=s.os:=os;exact⟨v,f,I.call (h':=i) (g':=g) (d':=d) (t':=t) (ch:=[]) un hok bare (λb z=>absurd z vC),r,q⟩
end
def zpm(sp:Sp)(d:List V)(E:XK)(t:TA):TE:=λe H Q=>t e H λf g=>sp (f++d) g Q E
def tMake(C:Addr)(sp:Sp)(e:List V)(E:XK)(t:TA):TE:=λg H Q=>t g H λh f=>∀x d,f x=none->f d=none->d≠x ->
 sp (.ref x::(h++e)) (upd (upd f d (.own x)) x (.ins C d [])) (λv i=>v=.non/\Q (.ref x) i) E
def Binds(K:vE)(g:FuncData)(e:List Str)(f:List Value):Prop:=
 ∀(s:Shared) (d:List Value),K.In s.heap->(d++f).length=e.length->BindsTo s g ⟨d,[]⟩ (e.zip (d++f))
def Binds.all{K:vE}{f:FuncData}{e:List Str}(h:∀d:List Value,d.length=e.length->bindArgs f ⟨d,[]⟩=pure (e.zip d)):Binds K f e []:=λs d _ g=>by
 rw[Jb] at g |-;exact .of_eq (h d g)
def zpd(g:CXT)(X:Cx)(E:XK):Prop:=∀(d:List (Addr×Obj)) (h:St) (H:Hp) (s:Shared) (e:Value) (f:Shared),Inv X d h H s->g X.stack H s E e f->X.xe e f
section
variable{X:Cx}{CX:CXT}{k:Nat}{f C:Addr}{fd:FuncData}{ps:List Str}{sp:Sp}{dvs:List V}{ds:List Value}{E:XK}{x m:Str}{p pos apos:Pos}{e o:Expr}{es:List Expr}{ta:TE}{t:TA}
def run_fn{d:List (Addr×Obj)}{l:St}{H:Hp}{s:Shared}{Q:VK}{g:List Value}{j:List V}(F:FnOk X.prog X.w X.K X.mg X.base CX k f fd ps sp)(n:Room k X.A)(o:Binds X.K fd ps ds)(p:Vals dvs ds)(q:zpd CX X E)
 (I:Inv X d l H s)(r:Vals j g)(h:sp (j++dvs) H Q E):wpAny (model X.prog X.w) X.A (call (.ref f) g) (EP X d l Q) X.xe s:=by
 have m:Vals (j++dvs) (g++ds):=r.append p;have t:(g++ds).length=ps.length:=by rw[<-m.length];exact F.len _ _ _ _ h
 refine wpAny_call (Vl (F.run X.A X.stack s H ⟨g,[]⟩ (g++ds) (j++dvs) Q E n I.env0 (o s g I.kIn t) m h) λr v i=>?_);cases r with
 |error e=>exact q d l H s e v I i
 |ok z=>
  cases z with
  |ret u=>exact I.after i
  |next=>exact False.elim i
  |brk=>exact False.elim i
  |cont=>exact False.elim i
def zpy(F:FnOk X.prog X.w X.K X.mg X.base CX k f fd ps sp)(l:Room k X.A)(m:Gl X x)(n:X.mg x=some (.ref f))(o:PySem.W.keepIn X.K (.ref f)=true)(u:Binds X.K fd ps ds)(v:Vals dvs ds)(z:zpd CX X E)
 (B:PA X (e::es) t)(g:(x == ("__debug__" : Str))=false:=by decide)(C:starEach (e::es) X.env=(false,eval e X.env)::starEach es X.env:=by rfl)(i:(backTo pos (starEach es X.env)).any (·.1)=false:=by rfl):
  PE X (.Call (.Name x p) (e::es) [] pos) (zpm sp dvs E t):=by
 intro d s D H Q I h;refine Q4 (zyp I m n ?_ g);refine V7 (h₀:=X.base) I.ok.mod.kin o (thn (B pos d s D H _ I h) λG J ⟨L,M,j,r,q⟩=>⟨j.kIn,?_⟩) C i;exact run_fn F l u v z j r q
structure Mk(K:vE)(C f:Addr):Prop where
 makes:PySem.W.makesIn K C=true
 init:PySem.W.findIn K (.ref C) "__init__" = some (some (.ref f))
 fn:PySem.W.isFn K (.ref f)=true
 kp:PySem.W.keepIn K (.ref C)=true
def ydc{d:List (Addr×Obj)}{m:St}{H:Hp}{s:Shared}{Q:VK}{i:List Value}{n:List V}(M:Mk X.K C f)(F:FnOk X.prog X.w X.K X.mg X.base CX k f fd ps sp)(q:Room (k+1) X.A)(t:Binds X.K fd ps ds)(z:Vals dvs ds)
 (B:zpd CX X E)(I:Inv X d m H s)(r:Vals n i)
 (h:∀x j,H x=none->H j=none->j≠x->sp (.ref x::(n++dvs)) (upd (upd H j (.own x)) x (.ins C j [])) (λv D=>v=.non/\Q (.ref x) D) E):
  wpAny (model X.prog X.w) X.A (call (.ref C) i) (EP X d m Q) X.xe s:=by
 have o:=h (s.heap.objs.size+1) s.heap.objs.size (I.hok.fresh (Jo _)) (I.hok.fresh (Zl _)) (Yh (Wz _));have l:=Inv.made (C:=C) I;have p:Vals (V.ref (s.heap.objs.size+1)::(n++dvs)) (Value.ref (s.heap.objs.size+1)::(i++ds)):=.cons rfl (r.append z);have G:(Value.ref (s.heap.objs.size+1)::i++ds).length=ps.length:=by
  have e:=p.length;rw[F.len _ _ _ _ o] at e;exact e.symm
 refine wpAny_call (yef (f:=f) I.kIn M.makes M.init (beq_iff_eq.mp M.fn) (Vl (F.run _ X.stack _ _ ⟨Value.ref (s.heap.objs.size+1)::i,[]⟩ (Value.ref (s.heap.objs.size+1)::(i++ds)) _ _ E (q.make C i [])
  (l.env0.make C i []) (t _ (Value.ref (s.heap.objs.size+1)::i) l.kIn G) p o) λr J g=>?_))
 cases r with
 |error e=>exact B d m _ _ e J l g
 |ok L=>
  cases L with
  |ret u=>
   obtain⟨v,N,O,P,ev,R⟩:=l.after g
   subst ev;exact⟨P,⟨V.ref (s.heap.objs.size+1),N,O,rfl,R⟩⟩
  |next=>exact False.elim g
  |brk=>exact False.elim g
  |cont=>exact False.elim g
def ykz(M:Mk X.K C f)(F:FnOk X.prog X.w X.K X.mg X.base CX k f fd ps sp)(l:Room (k+1) X.A)(m:Gl X x)(n:X.mg x=some (.ref C))(o:Binds X.K fd ps ds)(u:Vals dvs ds)(v:zpd CX X E)
 (z:PA X (e::es) t)(g:(x == ("__debug__" : Str))=false:=by decide)(B:starEach (e::es) X.env=(false,eval e X.env)::starEach es X.env:=by rfl)(i:(backTo pos (starEach es X.env)).any (·.1)=false:=by rfl):
  PE X (.Call (.Name x p) (e::es) [] pos) (tMake C sp dvs E t):=by
 intro d s D H Q I h;refine Q4 (zyp I m n ?_ g);refine V7 (h₀:=X.base) I.ok.mod.kin M.kp (thn (z pos d s D H _ I h) λG J ⟨L,N,j,r,q⟩=>⟨j.kIn,?_⟩) B i;exact ydc M F l o u v j r q
end
section
variable{X:Cx}{CX:CXT}{k:Nat}{f C:Addr}{fd:FuncData}{ps ks:List Str}{sp:Sp}{E:XK}{x m:Str}{p pos apos kpos:Pos}{e o:Expr}{es:List Expr}{kws:List Keyword}{te ta:TE}{t tk:TA}{nm:Option Str}
variable{g:List Value->List Value->List Value}{gV:List V->List V->List V}
end
structure FnScope(N P:List Str)(sc:Scope):Prop where
 kind:sc.kind=.function
 co:sc.isCoroutine=false
 gen:sc.isGenerator=false
 nd:N.Nodup
 pre:N.take P.length=P
 par:∀x∈P,sc.names.lookup x=some .local\/sc.names.lookup x=some .cell
 nofree:∀y∈sc.names,y.2 ≠ .free
theorem zov{e:Str->Option NameKind}{x:Str}:∀{d:List (Str×Value)}{m:Str->Option Value},(∀v,(x,v)∉d)->bindL e d m x=m x
 |[],_,_=>rfl
 |(n,v)::r,m,h=>by
  unfold bindL;rw[zov λw f=>h w (Yw _ f)];split
  ·have:x≠n:=by rintro rfl;exact h v Wx
   simp[this]
  ·rfl
theorem zox{e:Str->Option NameKind}{x:Str}:∀{d:List (Str×Value)}{m:Str->Option Value},(∀v,(x,v)∉d)->bindC e d m x=m x
 |[],_,_=>rfl
 |(n,v)::r,m,h=>by
  unfold bindC;rw[zox λw f=>h w (Yw _ f)];split
  ·rfl
  ·have:x≠n:=by rintro rfl;exact h v Wx
   simp[this]
theorem zow{d:Str->Option NameKind}{x:Str}{v:Value}:∀{P:List Str}{e:List Value}{i:Nat}{m:Str->Option Value},P.Nodup->P[i]? = some x->e[i]? = some v->d x=some .local ->
  bindL d (P.zip e) m x=some v
 |[],_,_,_,_,h,_,_=>by simp at h
 |_::_,[],_,_,_,_,h,_=>by simp at h
 |p::P,w::e,0,m,j,f,g,l=>by
  simp at f g;subst f;subst g
  show bindL d ((p,w)::P.zip e) m p=_;unfold bindL;rw[zov λv n=>(W8.mp j).1 (Va n).1,if_pos l];simp
 |p::P,w::e,i+1,m,j,f,g,l=>by
  show bindL d ((p,w)::P.zip e) m x=_;unfold bindL;exact zow (i:=i) (W8.mp j).2 (by simpa using f) (by simpa using g) l
theorem zoy{d:Str->Option NameKind}{x:Str}{v:Value}:∀{P:List Str}{e:List Value}{i:Nat}{m:Str->Option Value},P.Nodup->P[i]? = some x->e[i]? = some v->d x≠some .local ->
  bindC d (P.zip e) m x=some v
 |[],_,_,_,_,h,_,_=>by simp at h
 |_::_,[],_,_,_,_,h,_=>by simp at h
 |p::P,w::e,0,m,j,f,g,l=>by
  simp at f g;subst f;subst g
  show bindC d ((p,w)::P.zip e) m p=_;unfold bindC;rw[zox λv n=>(W8.mp j).1 (Va n).1,if_neg l];simp
 |p::P,w::e,i+1,m,j,f,g,l=>by
  show bindC d ((p,w)::P.zip e) m x=_;unfold bindC;exact zoy (i:=i) (W8.mp j).2 (by simpa using f) (by simpa using g) l
def start(N:List Str)(d:List V):St:=d.map some++List.replicate (N.length-d.length) none
def cxOf(i:CXT)(P:Program)(w:World)(K:vE)(mg:Str->Option Value)(base:Heap)(N:List Str)(d:Str)(scope:Scope)(f:Addr)(h:Value)(A:Around)(outer:List Env)(s:Shared)(H:Hp)(E:XK):Cx where
 prog:=P
 w:=w
 K:=K
 mg:=mg
 base:=base
 A:=A.deeper (envOfC d scope s.heap.objs.size f h)
 N:=N
 s₀:=s
 H₀:=H
 env:=envOfC d scope s.heap.objs.size f h
 outer:=outer
 stack:=envOfC d scope s.heap.objs.size f h::outer
 ex:=[]
 calm:=true
 fn:=λ_=>true
 pn:=[]
 xe:=λe j=>wpAny (model P w) (A.deeper (envOfC d scope s.heap.objs.size f h)) (leaving (envOfC d scope s.heap.objs.size f h) e) (λ_ g=>i outer H s E e g) (λl g=>i outer H s E l g) j
def ztf{sc:Scope}{n:Nat}{x:Str}(h:sc.names.lookup x=some .cell):∃c,(cellsFrom n sc.names []).lookup x=some c:=by
 have q:=Vm sc.names n [] (.inl h);exact Vf.mp q
def zyt{M:CXT}{P:Program}{w:World}{K:vE}{J:Str->Option Value}{j:Heap}{N m:List Str}{d:Str}{scope:Scope}{f:Addr}{F:Value}{A:Around}{outer:List Env}{s O:Shared}{H:Hp}{E:XK}{L:List Value}{o:List V}
 (S:FnScope N m scope)(T:A.handled=none)(l:Env0 P w K J j A outer s H)(Z:o.length=m.length)(r:Vals o L)
 (x:InCallC s s.heap.objs.size (bindL (envOfC d scope s.heap.objs.size f F).kindOf (m.zip L) λ_=>none) (cellsFrom (s.heap.objs.size+1) scope.names []) (bindC (envOfC d scope s.heap.objs.size f F).kindOf (m.zip L) λ_=>none) O):
  Inv (cxOf M P w K J j N d scope f F A outer s H E) [] (start N o) H O:=by
 have U:m.length<=N.length:=by have:=congrArg List.length S.pre;rw[Wy] at this;omega
 obtain⟨G,tk,rfl,Q⟩:=x.done
 have t:∀b:Addr,b∉(cxOf M P w K J j N d scope f F A outer s H E).ex:=λb z=>absurd (show b∈([]:List Addr) from z) vC
 refine⟨⟨l.mod,S.kind,rfl,rfl,Zl _,λy z c G g=>?_,λy B=>?_,λy c _ h=>?_,λ_=>T,Around.frames_deeper l.frames,.inr ⟨rfl,rfl⟩,λb z=>absurd z (t b),l.bs,l.bsz,λb _ _=>t b,λb z=>absurd z (t b),l.funs,l.frf⟩,
  rfl,l.bare,Un.kept Q,⟨_,x.toInCall.ns,λi y v G g h3=>?_⟩,λy c h=>⟨_,x.cell y c h⟩,l.hok.fresh (Zl _),λy c h=>?_,λp C=>absurd (show p∈([]:List (Addr×Obj)) from C) vC,l.hok.kept Q,?_⟩
 ·exact name_of_addr x.apart (Ke G) (Ke g)
 ·have B:scope.names.lookup y=some .cell\/scope.names.lookup y=some .free:=B;rcases B with B|B
  ·exact ztf B
  ·exact absurd rfl (S.nofree _ (Ke B))
 ·exact J0 (x.above y c (Ke h))
 ·have I:i<o.length:=by
   unfold start at g;by_cases I:i<o.length
   ·exact I
   ·rw[Yg (by simpa using I)] at g;rw[Wl] at g;split at g<;>cases g
  have X:o[i]? = some v:=by
   unfold start at g;rw[Yt (by simpa using I),Zj] at g;cases e:o[i]? with
   |none=>rw[e] at g;cases g
   |some a=>rw[e] at g;cases g;rfl
  obtain⟨u,R,Y⟩:=r.get X
  have C:m[i]? = some y:=by
   rw[<-S.pre,Jk vB];exact G
  have D:m.Nodup:=by rw[<-S.pre];exact S.nd.sublist (List.take_sublist _ _)
  refine⟨u,Y,?_⟩
  rcases S.par y (Yq C) with k|k
  ·exact .inl ⟨k,zow D C R k⟩
  ·obtain⟨c,e⟩:=ztf (n:=s.heap.objs.size+1) k
   refine .inr ⟨.inl k,c,e,?_⟩;have q:=x.cell y c e;rw[zoy D C R (by show scope.names.lookup y≠_;rw[k];decide)] at q;exact q
 ·exact l.hok.fresh (J0 (x.above y c (Ke h)))
 ·unfold start;show _=N.length;rw[Yc,Zc,Yy];omega
def fn_of{M:CXT}{P:Program}{w:World}{K:vE}{O:Str->Option Value}{h:Heap}{k:Nat}{f:Addr}{name d:Str}{i:Arguments}{j:List Stmt}{scope:Scope}{dV kV D pm g ct oc:Value}{an od:Option Addr}
 {T:Array (Option Value)}{N R:List Str}{sp:Sp}(lk:K.lookup f=some ⟨oc,od,.func (PySem.W.fnOf name d i j scope dV kV D pm an g ct),T⟩)(U:PySem.W.codeIn K g d=true)(S:FnScope N R scope)
 (len:∀l H Q E,sp l H Q E->l.length=R.length)
 (z:∀(A:Around) (outer:List Env) (s:Shared) (H:Hp) (l:List V) (Q:VK) (E:XK),Room k (A.deeper (envOfC d scope s.heap.objs.size f g))->sp l H Q E ->
   ∃t,PSs (cxOf M P w K O h N d scope f g A outer s H E) j t/\t {nx:=λ_ p=>Q .non p,rt:=Q} (start N l) H):
  FnOk P w K O h M (k+1) f (PySem.W.fnOf name d i j scope dV kV D pm an g ct) R sp:=by
 refine⟨len,λA outer s H args us l Q E X F hb r G=>?_⟩
 have hl:=len _ _ _ _ G;have KX:K.In s.heap:=F.mod.kin.keeps λb o e=>(F.bs b o e).1
 have Y:s.heap.NoLimit:=F.mod.nolimit.keeps λb o e=>(F.bs b o e).1
 have B:∀y∈R.zip us,scope.names.lookup y.1=some .local\/(scope.names.lookup y.1=some .cell/\((cellsFrom (s.heap.objs.size+1) scope.names []).lookup y.1).isSome=true):=λ⟨n,v⟩ hy=>by
  rcases S.par n (Va hy).1 with q|q
  ·exact .inl q
  ·exact .inr ⟨q,Vm _ _ _ (.inl q)⟩
 refine codeAny_call_function X.depth (KX _ _ lk) rfl S.co S.gen rfl (PySem.W.codeRec_of KX U) (hb _ _ _ _ ?_);refine wpAny_newFunctionEnv_cells S.kind B λa0 he s1 x=>?_;subst he;refine⟨Y.keeps x.toInCall.keep,codeAny_func ?_⟩
 obtain⟨t,ht,hq⟩:=z A outer s H l Q E (X.deeper _) G
 have I:Inv (cxOf M P w K O h N d scope f g A outer s H E) [] (start N l) H s1:=zyt S X.hd F hl r x;refine Uk (ht [] s1 (start N l) H _ I hq) (λfl Z C=>?_) λe Z C=>C
 have L:∀{m:St}{p:Hp}{v:V}{u:Value},Inv (cxOf M P w K O h N d scope f g A outer s H E) [] m p Z->RelV v u->Q v p->CE outer P w H s Q u Z:=
  λ{m p v u} J rv q=>⟨v,p,J.os,J.bare,J.base,J.hok,rv,q⟩
 cases fl with
 |ret u=>
  obtain⟨v,m,p,J,rv,q⟩:=C
  exact L J rv q
 |next=>
  obtain⟨m,p,J,q⟩:=C
  exact L (v:=V.non) (u:=Value.none) J rfl q
 |brk=>
  obtain⟨_,_,_,q⟩:=C
  exact False.elim q
 |cont=>
  obtain⟨_,_,_,q⟩:=C
  exact False.elim q
end L2
namespace L2
open PySem PySem.Spec PyProof.Rows
section
variable{X:Cx}{x:Str}{p pos:Pos}{e:Expr}{es:List Expr}{t:TA}{id T:String}{r:List V->Hp->VK->Prop}
def tCB(r:List V->Hp->VK->Prop)(t:TA):TE:=λd H Q=>t d H λe f=>r e f Q
def ydo(j:zka X (.builtin id) r)(l:Gl X x)(m:X.mg x=none)(n:bootBuiltins x=some (.builtin id))(o:PA X (e::es) t)(q:x ≠ "__name__" := by decide)(f:(x == ("__debug__" : Str))=false:=by decide)
 (u:starEach (e::es) X.env=(false,eval e X.env)::starEach es X.env:=by rfl)(g:(backTo pos (starEach es X.env)).any (·.1)=false:=by rfl):PE X (.Call (.Name x p) (e::es) [] pos) (tCB r t):=by
 intro d s i H Q I h;refine Q4 (zgn I l m n ?_ q f);exact PyProof.Rows.callWith_builtin1 (thn (o pos d s i H _ I h) λv w ⟨z,A,B,C,D⟩=>j d w i A z v Q B C D) u g
def zxs(j:zka X (.type T) r)(l:Gl X x)(m:X.mg x=none)(n:bootBuiltins x=some (.type T))(o:PA X (e::es) t)(q:x ≠ "__name__" := by decide)(f:(x == ("__debug__" : Str))=false:=by decide)
 (u:starEach (e::es) X.env=(false,eval e X.env)::starEach es X.env:=by rfl)(g:(backTo pos (starEach es X.env)).any (·.1)=false:=by rfl):PE X (.Call (.Name x p) (e::es) [] pos) (tCB r t):=by
 intro d s i H Q I h;refine Q4 (zgn I l m n ?_ q f);exact Y4 (thn (o pos d s i H _ I h) λv w ⟨z,A,B,C,D⟩=>j d w i A z v Q B C D) u g
end
end L2
namespace HT
open PySem PyProof.Rows
section
open PySem.SeqAt
open PySem.AutoSeq1 (wpAny_loadPart')
open PySem.MeetsSeq PySem.MeetsSeq2 PySem.MeetsSeq3
end
section
variable{prog:Program}{w:World}{A:Around}{E:Value->Shared->Prop}{s:Shared}
def sIx(n d:Nat):Option Int->Nat
 |none=>d
 |some v=>if v<0 then(v+(n:Int)).toNat else min v.toNat n
def sIx_none(n d:Nat):sIx n d none=d:=rfl
def sIx_nat(n d k:Nat):sIx n d (some (k:Int))=min k n:=by
 show(if (k:Int)<0 then((k:Int)+(n:Int)).toNat else min (k:Int).toNat n)=min k n;rw[if_neg vB,Z8]
end
end HT
namespace L2
open PySem PySem.Spec PyProof.Rows
abbrev TO:=St->Hp->(Option Int->Hp->Prop)->Prop
def PO(X:Cx)(e:Option Expr)(t:TO):Prop:=
 ∀(d:List (Addr×Obj)) (s:Shared) (f:St) (H:Hp) (Q:Option Int->Hp->Prop),Inv X d f H s->t f H Q ->
  wpAny (model X.prog X.w) X.A (evalPart e X.env) (λu h=>∃o g,Inv X d f g h/\IsPart u o/\Q o g) X.xe s
def yji:TO:=λ_ H Q=>Q none H
def tPart(t:TE):TO:=λd H Q=>t d H λx e=>∃i,x=.int i/\Q (some i) e
section
variable{X:Cx}{e:Expr}{te:TE}{lo hi:Option Expr}{tl th:TO}{pos p2:Pos}
def ykx:PO X none yji:=by
 intro d s e H Q I h;rw[evalPart_none];exact Zs ⟨none,H,I,.none,h⟩
def ykw(h:PE X e te):PO X (some e) (tPart te):=by
 intro d s f H Q I g;rw[evalPart_some];refine thn (h d s f H _ I g) λu o ⟨x,j,l,m,n⟩=>?_;obtain⟨i,rfl,q⟩:=n
 obtain⟨t,rfl⟩:=m
 exact⟨some i,j,l,.int i t,q⟩
def SlR(X:Cx)(r:V->Option Int->Option Int->Hp->VK->Prop):Prop:=
 ∀(d:List (Addr×Obj)) (s:Shared) (e:St) (H:Hp) (x:V) (v f g:Value) (lo hi:Option Int) (h:Addr) (Q:VK),Inv X d e H s->RelV x v->s.heap.IsSliceOf h f g .none->IsPart f lo->IsPart g hi->r x lo hi H Q ->
  ∃T id,typeLookup (.type T) "__getitem__" = pure (some (.builtin id))/\s.TypeIs v T/\wpAny (model X.prog X.w) X.A (getItem v (.ref h)) (EP X d e Q) X.xe s
def tSl(r:V->Option Int->Option Int->Hp->VK->Prop)(te:TE)(tl th:TO):TE:=λd H Q=>te d H λx e=>tl d e λl f=>th d f λu H3=>r x l u H3 Q
def ydm{r:V->Option Int->Option Int->Hp->VK->Prop}(m:SlR X r)(n:PE X e te)(o:PO X lo tl)(p:PO X hi th):PE X (.Subscript e (.Slice lo hi none p2) pos) (tSl r te tl th):=by
 intro d s g H Q I h;refine Subscript_ (thn (n d s g H _ I h) λv t ⟨x,z,B,C,D⟩=>?_);refine wpAny_Slice (thn (o d t g z _ B D) λi E ⟨l,F,G,pl,J⟩=>thn (p d E g F _ G J) λj f ⟨u,H3,K,L,M⟩=>?_);rw[evalPart_none];refine Zs ?_;have N:Inv X d g H3 {f with heap:=f.heap.push {cls:=.type "slice",data:=.fields #[i,j,.none]} }:=K.kept (t':=f.toks) λb S q=>Zf _ q
 obtain⟨T,id,O,P,R⟩:=m d {f with heap:=f.heap.push {cls:=.type "slice",data:=.fields #[i,j,.none]} } g H3 x v i j l u f.heap.objs.size Q N C (Heap.IsSliceOf.new ..) pl L M
 show wpAny (model X.prog X.w) X.A (subscriptTail e (.Slice lo hi none p2) v (.ref f.heap.objs.size)) (EP X d g Q) X.xe {f with heap:=f.heap.push {cls:=.type "slice",data:=.fields #[i,j,.none]} };exact tail_any (ops:=[.ref f.heap.objs.size,v]) P O R (by with_unfolding_all rfl)
def cutV(d:List V)(lo hi:Option Int):List V:=(d.drop (HT.sIx d.length 0 lo)).take (HT.sIx d.length d.length hi-HT.sIx d.length 0 lo)
def zqr(d:List V)(lo hi:Option Int):(cutV d lo hi).length<=d.length:=by
 unfold cutV;rw[Wy,Yi];omega
end
end L2
namespace L2
open PySem PySem.Spec PyProof.Rows
def ixN(n:Nat)(i:Int):Option Nat:=if 0<=i then(if i<n then some i.toNat else none) else if -(n:Int)<=i then some (i+n).toNat else none
def atI{d:Type}(e:List d)(i:Int):Option d:=(ixN e.length i).bind λj=>e[j]?
def ixN_seq{n:Nat}{i:Int}{j:Nat}(h:ixN n i=some j):seqIndex? i n=some j/\j<n /\ -(n:Int)<=i/\i<n:=by
 unfold ixN at h;by_cases f:0<=i
 ·rw[if_pos f] at h;by_cases d:i<n
  ·rw[if_pos d] at h;have e:i.toNat=j:=Z3 h;exact⟨by rw[seqIndex_of f d,e],by omega,by omega,d⟩
  ·rw[if_neg d] at h;cases h
 ·rw[if_neg f] at h;by_cases d : -(n:Int)<=i
  ·rw[if_pos d] at h;have e:(i+n).toNat=j:=Z3 h;exact⟨by rw[Ba vB d,e],by omega,d,by omega⟩
  ·rw[if_neg d] at h;cases h
def ybd{f:Type}{d:List f}{i:Int}{v:f}(h:atI d i=some v):∃j,seqIndex? i d.length=some j/\d[j]? = some v/\j<d.length /\ -(d.length:Int)<=i/\i<d.length:=by
 unfold atI at h;cases e:ixN d.length i with
 |none=>rw[e] at h;cases h
 |some j=>
  rw[e] at h;obtain⟨g,l,m,n⟩:=ixN_seq e
  exact⟨j,g,h,l,m,n⟩
def atI_last{f:Type}(d:List f)(v:f):atI (d++[v]) (-1)=some v:=by
 have g:(d++[v]).length=d.length+1:=by simp
 have e:ixN (d++[v]).length (-1)=some d.length:=by
  unfold ixN;rw[g,if_neg vA,if_pos vB];congr 1
  omega
 unfold atI;rw[e];show(d++[v])[d.length]? = some v;simp
def ybm(b:Expr):Prop:=∀o i,subscripted b false o i=operate [o,i] (getItem o i)
def IxR(X:Cx)(r:R2):Prop:=
 ∀(d slice:Expr) (pins:List (Addr×Obj)) (s:Shared) (e:St) (H:Hp) (x y:V) (v u:Value) (Q:VK),Inv X pins e H s->RelV x v->RelV y u->r x y H Q ->
  subscripted slice false v u=operate [v,u] (getItem v u)->wpAny (model X.prog X.w) X.A (subscriptTail d slice v u) (EP X pins e Q) X.xe s
def MtR(X:Cx)(id:String)(r:V->List V->Hp->VK->Prop):Prop:=
 ∀(d:List (Addr×Obj)) (s:Shared) (e:St) (H:Hp) (x:V) (f:List V) (v:Value) (g:List Value) (Q:VK),Inv X d e H s->RelV x v->Vals f g->r x f H Q ->
  wpAny (model X.prog X.w) X.A (call (.builtin id) (v::g)) (EP X d e Q) X.xe s
section
variable{X:Cx}{a b:Expr}{ta tb:TE}{pos:Pos}
def pe_ix{r:R2}(e:IxR X r)(f:PE X a ta)(g:PE X b tb)(i:ybm b):PE X (.Subscript a b pos) (tOp r ta tb):=by
 intro d s j H Q I h;exact Subscript_ (binT f g I h λv u l x y m n o p q=>e a b d l j m x y v u Q n o p q (i _ _))
def rIxL(K:vE):R2:=λx y H Q=>∃p d i v,x=.ref p/\y=.int i/\SqL K H p d/\atI d i=some v/\Q v H
def rIxT(K:vE):R2:=λx y H Q=>∃p d i v,x=.ref p/\y=.int i/\SqT K H p d/\atI d i=some v/\Q v H
def ymm:IxR X (rIxL X.K):=by
 intro g slice d s o H x y v u Q I D E h A;obtain⟨p,P,i,z,rfl,rfl,F,G,q⟩:=h
 cases D;obtain⟨t,rfl⟩:=E
 obtain⟨l,r,pl,R⟩:=I.list F
 obtain⟨j,f,J,S,L,M⟩:=ybd G
 obtain⟨w,B,m⟩:=r.get J
 have N:=r.length;have T:=zsl;have e:EP X d o Q w s:=⟨z,H,I,m,q⟩;by_cases C:0<=i
 ·have n:i.toNat=j:=by
   rw[seqIndex_of C M] at f;exact Z3 f
  exact item_listR pl.isList C vB (by rw[n];simpa using B) e A
 ·have n:(i+(l.toArray.size:Int)).toNat=j:=by
   rw[Ba vB L] at f;rw[Zt,<-N];exact Z3 f
  exact Gz (x:=w) pl.isList.typeIs slot_list_getitem.lookup
   (wpAny_getItem_list_neg (Q:=λr O=>r=w/\EP X d o Q r O) pl.isList vB (by rw[Zt]<;>omega) vB (by rw[n];simpa using B) ⟨rfl,e⟩) A
def ix_tup:IxR X (rIxT X.K):=by
 intro e slice d s l H x y v u Q I m n h o;obtain⟨p,L,i,z,rfl,rfl,A,B,q⟩:=h
 cases m;obtain⟨t,rfl⟩:=n
 obtain⟨C,r,pl,M⟩:=I.tuple A
 obtain⟨j,D,E,N,O,P⟩:=ybd B
 obtain⟨w,F,f⟩:=r.get E
 have G:=r.length;have R:=zsl;have g:EP X d l Q w s:=⟨z,H,I,f,q⟩;exact Gz (x:=w) pl.typeIs slot_tuple_getitem.lookup
  (getItem_tuple (j:=j) (Q:=λr J=>r=w/\EP X d l Q r J) pl vB vB (by rw[Zt,<-G];exact D) (by simpa using F) ⟨rfl,g⟩) o
def zup(d:List Value)(n j:Nat)(u:Value):Obj.mapSeq (·.setIfInBounds j u) {cls:=.type "list",data:=.seq d.toArray n}={cls:=.type "list",data:=.seq (d.set j u).toArray n}:=by
 simp[Obj.mapSeq]
theorem Inv.lst{pins:List (Addr×Obj)}{σ:St}{H:Hp}{s:Shared}{p:Addr}{f:List V}(I:Inv X pins σ H s)(h:H p=some (.lst f)):
  ∃(d:List Value) (n:Nat),Vals f d/\s.heap.get? p=some {cls:=.type "list",data:=.seq d.toArray n}/\f.length<=sizeLine:=by
 obtain⟨z,d,n,r,e⟩:=I.hok p _ h
 exact⟨d,n,r,e,z⟩
def Inv.lstUpd{pins:List (Addr×Obj)}{σ:St}{H:Hp}{s:Shared}{p:Addr}{m i:List V}{g d:List Value}{n j:Nat}{f:Obj->Obj}(I:Inv X pins σ H s)(h:H p=some (.lst m))
 (o:s.heap.get? p=some {cls:=.type "list",data:=.seq g.toArray n})(l:f {cls:=.type "list",data:=.seq g.toArray n}={cls:=.type "list",data:=.seq d.toArray j})(r:Vals i d)(v:i.length<=sizeLine)(t:Nat):
  Inv X pins σ (upd H p (.lst i)) {s with heap:=s.heap.update p f,toks:=t}:=by
 have e:(s.heap.update p f).get? p=some {cls:=.type "list",data:=.seq d.toArray j}:=by
  rw[Wv f o (by rw[l]<;>rfl),l]
 refine I.write (x:=p) (e:=p) (by rw[h];trivial) (.inl rfl) (λb u w q=>(Yp _ _ (W5 w)).trans q) ⟨_,e⟩ ?_;exact⟨v,d,j,r,e⟩
def rSetL:V->V->V->Hp->(Hp->Prop)->Prop:=λo i v H Q=>∃p d k j,o=.ref p/\i=.int k/\H p=some (.lst d)/\ixN d.length k=some j/\Q (upd H p (.lst (d.set j v)))
def ycp:PSet X rSetL:=by
 intro d s D H o i v M N u Q I E F G h;obtain⟨p,J,k,j,rfl,rfl,w,K,q⟩:=h
 cases E;obtain⟨t,rfl⟩:=F
 obtain⟨e,n,r,g,L⟩:=I.lst w
 obtain⟨f,O,z,A⟩:=ixN_seq K
 have l:=r.length;have P:=zsl;have B:Inv X d D (upd H p (.lst (J.set j v))) {s with heap:=s.heap.update p (Obj.mapSeq (·.setIfInBounds j u))}:=
  I.lstUpd w g (zup e n j u) (r.set G j) (by rw[W9];exact L) s.toks
 by_cases C:0<=k
 ·have m:k.toNat=j:=by
   rw[seqIndex_of C A] at f;exact Z3 f
  exact PySem.W.ki_setAt g C vB (by rw[Zt,<-l];exact A) (by rw[m];exact⟨_,B,q⟩)
 ·have m:(k+(e.toArray.size:Int)).toNat=j:=by
   rw[Ba vB z] at f;rw[Zt,<-l];exact Z3 f
  exact PySem.W.ki_setBack g vB (by rw[Zt,<-l];exact z) vB (by rw[m];exact⟨_,B,q⟩)
def znh(d e:Option Int)(n:Nat):(sliceBounds d e none n).1=((HT.sIx n 0 d:Nat):Int)/\(sliceBounds d e none n).2.1=((HT.sIx n n e:Nat):Int)/\(sliceBounds d e none n).2.2=1:=by
 refine⟨?_,?_,rfl⟩
 ·cases d with
  |none=>simp[sliceBounds,HT.sIx]
  |some i=>
   simp only[sliceBounds,HT.sIx,Gu,show(1:Int) > 0 by decide,if_true];by_cases h:i<0
   ·simp only[h,if_true]<;>omega
   ·simp only[h,if_false]<;>omega
 ·cases e with
  |none=>simp[sliceBounds,HT.sIx]
  |some i=>
   simp only[sliceBounds,HT.sIx,Gu,show(1:Int) > 0 by decide,if_true];by_cases h:i<0
   ·simp only[h,if_true]<;>omega
   ·simp only[h,if_false]<;>omega
def zlb(d:List Value)(e f:Option Int):slicePick d.toArray e f none=((d.drop (HT.sIx d.length 0 e)).take (HT.sIx d.length d.length f-HT.sIx d.length 0 e)).toArray:=by
 obtain⟨g,h,i⟩:=znh e f d.toArray.size
 unfold slicePick;rw[g,h,i];simp only[sliceRange_one,pick_run,Zt]<;>rfl
def rSlL(K:vE):V->Option Int->Option Int->Hp->VK->Prop:=λx e f H Q=>∃a d,x=.ref a/\SqL K H a d/\∀p,H p=none->Q (.ref p) (upd H p (.lst (cutV d e f)))
def yjn:SlR X (rSlL X.K):=by
 intro i s w H x v z A f g B Q I l m pl n h;obtain⟨a,d,rfl,p,q⟩:=h
 cases l;obtain⟨t,r,j,u⟩:=I.list p
 have e:=r.length;refine⟨"list",_,slot_list_getitem.lookup,j.isList.typeIs,?_⟩
 refine wpAny_getItem_list_slice j.isList m pl n .none vC ?_ (by rw[Zt]<;>omega);rw[zlb,<-e];refine⟨.ref s.heap.objs.size,_,I.laid (t':=s.toks) (o:=.lst (cutV d f g)) (λb C q=>Zf _ q) (Zl _) ?_,rfl,q _ (I.hok.fresh (Zl _))⟩
 exact⟨Wg (zqr d f g) u,_,0,(r.drop (HT.sIx d.length 0 f)).take (HT.sIx d.length d.length g-HT.sIx d.length 0 f),Zy _ rfl⟩
def zgo:zka X (.builtin "len") (λj H Q=>∃p e,j=[.ref p]/\(SqL X.K H p e\/SqT X.K H p e)/\Q (.int e.length) H):=by
 intro l s o H j t Q I r h;obtain⟨p,e,rfl,f,q⟩:=h
 obtain⟨u,rfl,m⟩:=zkt r
 cases m;have v:=zsl;rcases f with f|f
 ·obtain⟨g,i,pl,n⟩:=I.list f
  have d:=i.length;exact Calls.call_len_list pl.isList (by simp only[Zt]<;>omega) ⟨.int e.length,H,I.tok _,⟨s.toks+1,by rw[Zt,d]⟩,q⟩
 ·obtain⟨g,i,pl,n⟩:=I.tuple f
  have d:=i.length;exact len_tuple pl (by simp only[Zt]<;>omega) ⟨.int e.length,H,I.tok _,⟨s.toks+1,by rw[Zt,d]⟩,q⟩
def zml:zka X (.type "tuple") (λn H Q=>∃p g,n=[.ref p]/\((SqL X.K H p g/\∀l,H l=none->Q (.ref l) (upd H l (.tup g)))\/(SqT X.K H p g/\Q (.ref p) H))):=by
 intro d s t H n E Q I r h;obtain⟨p,g,rfl,h⟩:=h
 obtain⟨u,rfl,B⟩:=zkt r
 cases B;rcases h with⟨j,q⟩|⟨j,q⟩
 ·obtain⟨f,m,pl,v⟩:=I.list j
  have z:=m.length;refine call_tuple_list pl.isList (λi C=>?_) (by simp only[Zt]<;>omega);have A:Inv X d t H {s with heap:=i}:=I.kept (t':=s.toks) C;have D:Inv X d t (upd H i.objs.size (.tup g)) {s with heap:=i.push {cls:=.type "tuple",data:=.seq f.toArray} }:=
   A.laid (t':=s.toks) (λb o e=>Zf _ e) (Zl _) (show ObjOk X.prog X.w _ _ _ (.tup g) from⟨v,f,m,IsTup.new _ _⟩)
  exact⟨.ref i.objs.size,_,D,rfl,q _ (A.hok.fresh (Zl _))⟩
 ·obtain⟨f,m,pl,v⟩:=I.tuple j
  exact call_tuple_same pl ⟨.ref p,H,I,rfl,q⟩
def tyV(K:vE)(T:String)(x:V)(H:Hp):Prop:=match x with
 |.str _=>T = "str"
 |.int _=>T = "int"
 |.ref p=>(T = "list" /\ ∃e,SqL K H p e)\/(T = "tuple" /\ ∃o,K.lookup p=some o/\o.cls=.type "tuple" /\ o.dict=none) \/
   (T = "dict" /\ ((∃d,H p=some (.dK d))\/∃d,H p=some (.dT d)))\/(T = "set" /\ ∃S n,H p=some (.set S n))
 |_=>False
def tyV_is{f:List (Addr×Obj)}{q:St}{H:Hp}{s:Shared}{T:String}{x:V}{v:Value}(I:Inv X f q H s)(r:RelV x v)(g:tyV X.K T x H):
  s.TypeIs v T/\∀a,v=.ref a->∃m,s.heap.get? a=some m/\m.dict=none:=by
 cases x with
 |str z=>
  obtain⟨t,rfl⟩:=r
  cases(show T = "str" from g)
  exact⟨typeIs_str s z t,λ_ e=>nomatch e⟩
 |int i=>
  obtain⟨t,rfl⟩:=r
  cases(show T = "int" from g)
  exact⟨typeIs_int s i t,λ_ e=>nomatch e⟩
 |ref p=>
  cases r;rcases g with⟨rfl,B,u⟩|⟨rfl,o,d,w,h⟩|⟨rfl,d⟩|⟨rfl,S,n,d⟩
  ·obtain⟨A,_,pl,_⟩:=I.list u
   refine⟨pl.isList.typeIs,λa e=>?_⟩
   cases e;obtain⟨o,n,e,c,h,_⟩:=pl
   exact⟨o,e,h⟩
  ·refine⟨⟨o,I.kIn p o d,w⟩,λa e=>?_⟩
   cases e;exact⟨o,I.kIn _ o d,h⟩
  ·have z:∃o,s.heap.get? p=some o/\o.ExactDict:=by
    rcases d with⟨j,d⟩|⟨j,d⟩
    ·obtain⟨_,_,_,_,o,_,_,e,ex,_⟩:=I.hok p _ d
     exact⟨o,e,ex⟩
    ·obtain⟨_,_,_,_,o,_,_,e,ex,_⟩:=I.hok p _ d
     exact⟨o,e,ex⟩
   obtain⟨o,e,ex⟩:=z
   refine⟨⟨o,e,ex.1⟩,λa l=>?_⟩
   cases l;exact⟨o,e,ex.2.1⟩
  ·obtain⟨o,_,_,_,e,ex,_⟩:=I.hok p _ d
   refine⟨⟨o,e,ex.1⟩,λa l=>?_⟩
   cases l;exact⟨o,e,ex.2.1⟩
 |_=>exact False.elim g
def tBM(K:vE)(T:String)(r:V->List V->Hp->VK->Prop)(f:TE)(t:TA):TE:=λd H Q=>f d H λx e=>tyV K T x e/\t d e λg h=>r x g h Q
variable{o e:Expr}{es:List Expr}{to:TE}{t:TA}{name:Str}{apos cpos:Pos}{T id:String}{r:V->List V->Hp->VK->Prop}
def ydp(u:PlainAttrs T)(slot:Slot T name id)(l:typeOf (.builtin id)=pure (.type "method_descriptor"))(w:MtR X id r)(z:PE X o to)(A:PA X (e::es) t)
 (g:attributeBase o name X.env (eval o X.env)=eval o X.env:=by rfl)
 (j:((backTo cpos (starEach (e::es) X.env)).all (λx=>!x.1) && (backToKw cpos (keywordEach [] X.env)).all (λx=>x.1.isSome)
   && decide ((e::es).length+([]:List Keyword).length+(if ([]:List Keyword).isEmpty then 0 else 1)<30))=true:=by rfl)
 (i:(apos.endLine == cpos.line)=true:=by rfl)(B:starEach (e::es) X.env=(false,eval e X.env)::starEach es X.env:=by rfl)(f:(backTo cpos (starEach es X.env)).any (·.1)=false:=by rfl):
  PE X (.Call (.Attribute o name apos) (e::es) [] cpos) (tBM X.K T r to t):=by
 intro d s m H Q I h;refine wpAny_Call_method_late g j i rfl (thn (z d s m H _ I h) λv C ⟨x,D,n,p,ty,E⟩=>?_);obtain⟨F,G⟩:=tyV_is n p ty
 refine⟨T,id,u,slot,l,F,G,?_⟩
 have q:=A cpos d C m D _ n E;rw[B] at q |-;refine Calls.callWith_builtin (by show(false || (backTo cpos (starEach es X.env)).any (·.1))=false;rw[f]<;>rfl) (Calls.evalArgs_plain ?_);exact thn q λJ L ⟨M,N,O,P,R⟩=>w d L m N x M v J Q O p P R
end
end L2
namespace L2
open PySem PySem.Spec PyProof.Rows
def MtM(X:Cx)(id:String)(r:V->List V->Hp->VK->Prop):Prop:=
 ∀(d:List (Addr×Obj)) (s:Shared) (e:St) (H:Hp) (x:V) (f:List V) (v:Value) (g:List Value) (Q:VK),Inv X d e H s->RelV x v->Vals f g->r x f H Q ->
  wpAny (model X.prog X.w) X.A (call (.builtin id) (v::g)) (EP X d e Q) X.xe s
def Vals.one:∀{x:V}{d:List Value},Vals [x] d->∃u,d=[u]/\RelV x u:=λh=>by
 cases h with
 |cons r t=>cases t;exact⟨_,rfl,r⟩
theorem Vals.eraseIdx:∀{d:List V}{e:List Value}(i:Nat),Vals d e->Vals (d.eraseIdx i) (e.eraseIdx i)
 |_,_,_,.nil=>.nil
 |_,_,0,.cons _ t=>t
 |_,_,i+1,.cons r t=>.cons r (Vals.eraseIdx i t)
theorem zoh{d:Type}:∀(l:List d) (i:Nat),(l.eraseIdx i).length<=l.length
 |[],_=>Zl _
 |_::_,0=>Jo _
 |_::r,i+1=>Nat.succ_le_succ (zoh r i)
section
variable{X:Cx}{pins:List (Addr×Obj)}{σ:St}{H:Hp}{s:Shared}{l b:Addr}{xs ys zs:List V}
def Inv.lset{d its':List Value}{n:Nat}{f:Array Value->Array Value}{g:Nat}(I:Inv X pins σ H s)(h:H l=some (.lst xs))
 (e:s.heap.get? l=some {cls:=.type "list",data:=.seq d.toArray n})(i:f d.toArray=its'.toArray)(j:Vals ys its')(m:ys.length<=sizeLine):
  Inv X pins σ (upd H l (.lst ys)) {s with heap:=s.heap.update l (Obj.mapSeq f),toks:=g}:=by
 have q:=PySem.IsL.update e f;rw[i] at q;refine I.write (x:=l) (e:=l) (by rw[h];exact trivial) (.inl rfl) (λr u o p=>(Yp s.heap (Obj.mapSeq f) (W5 o)).trans p) ⟨_,q⟩ ?_;exact⟨m,its',_,j,q⟩
def Inv.lnew{its:List Value}{t':Nat}(I:Inv X pins σ H s)(d:Vals ys its)(e:ys.length<=sizeLine):
  Inv X pins σ (upd H s.heap.objs.size (.lst ys)) {s with heap:=s.heap.push {cls:=.type "list",data:=.seq its.toArray},toks:=t'}:=
 I.laid (λ_ _ q=>Zf _ q) (Zl _) ⟨e,its,0,d,Zy _ rfl⟩
theorem Inv.fresh(I:Inv X pins σ H s):H s.heap.objs.size=none:=I.hok.fresh (Zl _)
def Inv.lstM(I:Inv X pins σ H s)(f:H l=some (.lst xs)):xs.length<=sizeLine/\∃(d:List Value) (n:Nat),Vals xs d/\xs.length=d.length/\s.heap.get? l=some {cls:=.type "list",data:=.seq d.toArray n}:=by
 obtain⟨z,d,n,r,e⟩:=I.hok l _ f
 exact⟨z,d,n,r,r.length,e⟩
end
section
variable{X:Cx}
def zxa:V->List V->Hp->VK->Prop:=λx e H Q=>∃l d y,x=.ref l/\e=[y]/\H l=some (.lst d)/\d.length<sizeLine/\Q .non (upd H l (.lst (d++[y])))
def ziu:MtM X "list.append" zxa:=by
 intro f s o H x p v t Q I i j h;obtain⟨l,w,y,rfl,rfl,g,A,q⟩:=h
 cases i;obtain⟨u,rfl,m⟩:=j.one
 obtain⟨z,d,n,r,B,e⟩:=I.lstM g
 refine call_meets F.slot_list_append ⟨_,e,rfl⟩ F.entry_list_append (F.args_list_append_2 _ _) (PySem.list_append l d.toArray n u (by rw[Zt];omega)) ⟨e,?_⟩;refine⟨.non,_,I.lset (its':=d++[u]) g e vC (r.append #v[m]) ?_,rfl,q⟩
 rw[Yc,V8];omega
def rPopAt:V->List V->Hp->VK->Prop:=λx e H Q=>∃l d i k y,x=.ref l/\e=[.int i]/\H l=some (.lst d) /\ -(2^63)<=i/\i<2^63/\seqIndex? i d.length=some k/\d[k]? = some y/\Q y (upd H l (.lst (d.eraseIdx k)))
def yea:MtM X "list.pop" rPopAt:=by
 intro g s K H x L v M Q I m o h;obtain⟨l,p,i,k,y,rfl,rfl,j,A,B,C,D,q⟩:=h
 cases m;obtain⟨u,rfl,E⟩:=o.one
 obtain⟨t,rfl⟩:=E
 obtain⟨z,d,n,r,G,e⟩:=I.lstM j
 obtain⟨w,J,f⟩:=r.get D
 refine call_meets F.slot_list_pop ⟨_,e,rfl⟩ F.entry_list_pop (F.args_list_pop_2 _ _)
  (MeetsSeq.list_pop_at l d.toArray n i t k w (fitsIndex_both A B) (by rw[Zt,<-G];exact C) (by rw[<-Array.getElem?_toList];exact J) (by rw[Zt];omega)) ⟨e,?_⟩
 refine⟨y,_,I.lset (its':=d.eraseIdx k) j e ?_ (r.eraseIdx k) ?_,f,q⟩
 ·show d.toArray.eraseIdxIfInBounds k=(d.eraseIdx k).toArray;rw[List.eraseIdxIfInBounds_toArray]
 ·have:=zoh p k
  omega
end
section
variable{prog:Program}{w:World}{A:Around}{E:Value->Shared->Prop}{s:Shared}
end
section
variable{X:Cx}
end
end L2
namespace Att
open PySem PySem.W PySem.Calls PyProof.Rows
def zjd{P:Params}{h:Heap}:∀(d:List Int) (e:List Value),WellAll P h e (d.map WData.int)->IntsAre e d:=by
 intro d;induction d with
 |nil=>
  intro e w;rw[W7] at w;cases w;exact .nil
 |cons n d f=>
  intro e w;rw[Zx] at w;cases w with
  |cons a b=>
   cases a;exact .cons _ _ (f _ b)
def zwn{l:OpenLaw}{n:Nat}(v:l.most=some n){P:Params}{h:Heap}{args:List WData}{f:List Value}
 (g:l.row.toRowW.claim.pre args=true)(p:WellAll P h f args):
  ∃a t e,f=[Value.ref a]/\args=[WData.list (e.map WData.int)]/\h.get? a=some {cls:=.type "list",data:=.seq t.toArray}/\IntsAre t e/\e.length<=n:=by
 have s:WShape.hasAll [] args [.list .int]=true:=(pre_splitW g).1;have u:l.pre.holds [] {args:=args}=true:=(pre_splitW g).2;obtain⟨d,r,rfl,w,z⟩:=hasAllW_cons s
 obtain rfl:=hasAllW_nil z;obtain⟨F,rfl,A⟩:=hasW_list w
 obtain⟨e,rfl⟩:=items_int A
 have i:e.length<=n:=by
  unfold OpenLaw.pre at u;have m:(WTm.not (.lt (.lit (.int (n:Int))) (.len (.arg 0)))).holds [] {args:=[.list (e.map .int)]}=true:=by
   have m:=(holds_andW u).1;rw[v] at m;exact m
  have o:=condW_of m (w_not (w_lt w_lit (w_len_list (w_arg rfl))));rw[Zc] at o;refine Nat.le_of_not_lt λq=>?_;have B:(n:Int)<((e.length:Nat):Int):=by omega
  first
   |(rw[decide_eq_true B] at o;exact absurd o vA)
   |(simp at o;omega)
 cases p with
 |cons C D=>
  cases D;cases C with
  |list E j=>exact⟨_,_,e,rfl,rfl,E,zjd e _ j,i⟩
def zxj(l:OpenLaw)(args:List WData):l.row.toRowW.claim.post args (.bool true) args=true:=
 postW_of (r:=l.row.toRowW) (X:=(true == true))
  (show WShape.has [] (.bool true) .bool=true by first|rfl|decide|simp[WShape.has,WShape.arms,WShape.armsAll])
  (show(WTm.eq .res (.lit (.bool true))).value [] {args:=args,res:=some (.bool true),after:=args}=some (.bool (true == true)) from w_eq_bool (w_res rfl) w_lit) rfl
def attach_call{l:OpenLaw}{n:Nat}{q:Program}{g:List Str}{H:(Str->Option Value)->Heap->Prop}{I:World->Heap->Prop}{d:DefRec}
 (L:l.most=some n)(A:d.params.defaults=[])
 (j:∀(w:World) (s₀ e:Shared) (t B:Str->Option Value) (m:Addr) (o:Obj) (C u h:Value) (a:Addr) (i:List Value) (v:List Int),
   Ground q g [] H w s₀ t B e.heap->I w e.heap ->
   e.heap.get? m=some o->o.data=.func (docDef d.name d.params d.body d.scope C u h)->e.heap.CodeRec u d.name->t d.name=some (.ref m) ->
   e.heap.get? a=some {cls:=.type "list",data:=.seq i.toArray}->IntsAre i v->v.length<=n->e.gens = #[] ->
   codeAny (model l.prog w) callerA (.call (.ref m) ⟨[.ref a],[]⟩) (λr z=>r=.ok (.ret (.bool true))/\OldK e.heap z.heap/\z.os=e.os/\AllBare z.gens) e):
  WalkO q g H I l.row.toRowW d [] (λf i=>PySem.call f i):=by
 intro w s₀ e t B G Y m o C u h M kV N O D hD E P args J X p K Q F R;obtain rfl:M=.none:=Dflts.none hD A;obtain rfl:kV=.none:=Dflts.noKw hD;obtain⟨a,i,v,rfl,rfl,s,hints,hlen⟩:=zwn L p F
 refine enter_call (Vl (j w s₀ e t B m o C u h a i v G Y N (fd_plain O) D E s hints hlen P) λr z S=>?_);obtain⟨rfl,T,U,V⟩:=S
 exact⟨.inl ⟨.bool true,.bool true,[],rfl,λ_=>rfl,.bool true,zxj l _,λ_=>⟨List.Pairwise.nil,λ_ W=>(nomatch W)⟩⟩,T,U,V⟩
section
variable{prog:Program}{w:World}{A:Around}{E:Value->Shared->Prop}{s:Shared}{K:Frag}
end
end Att
namespace L2
open PySem PySem.Spec PyProof.Rows
theorem zna:∀{d:List Value}{e:List Int},IntsAre d e->Vals (e.map V.int) d
 |_,_,.nil=>.nil
 |_,_,.cons n t h=>.cons ⟨t,rfl⟩ (zna h)
def Only(H:Hp):Prop:=∀b,H b=none\/∃o d,H b=some (.frz o (.lst d))
def yeo{P:Program}{w:World}{K:vE}{C S:Str->Option Value}{CX:CXT}{k:Nat}{T a:Addr}{fd:FuncData}{x:Str}{sp:Sp}{f:Shared}{A:List Value}{D:List Int}
 (KX:K.In f.heap)(E:f.heap.Ns mainGlobals C)(i:f.heap.Ns builtinsNs S)(U:∀x:Str,x ≠ "__name__" -> S x=bootBuiltins x)(G:f.heap.NoLimit)(hg:f.gens = #[])
 (R:f.heap.get? a=some {cls:=.type "list",data:=.seq A.toArray})(hi:IntsAre A D)(hl:D.length<=sizeLine)(hr:Room k callerA)
 (F:∀j:Heap,K.In j->j.Ns mainGlobals C->FnOk P w K C j CX k T fd [x] sp)(B:∀(s:Shared) (u:Value),BindsTo s fd ⟨[u],[]⟩ [(x,u)])
 (X:∀H:Hp,Only H->SqL K H a (D.map V.int)->sp [.ref a] H (λv _=>v=.bl true) λ_ _ _=>False)
 (Y:∀H e l,CX [] H f (λ_ _ _=>False) e l->False):
  codeAny (model P w) callerA (.call (.ref T) ⟨[.ref a],[]⟩) (λr l=>r=.ok (.ret (.bool true))/\OldK f.heap l.heap/\l.os=f.os/\AllBare l.gens) f:=by
 have rv:=zna hi;have I:=hi.length;have t:∀H:Hp,Only H->SqL K H a (D.map V.int)->HOk P w H f.heap->(∀b,H b≠none->b=a)->(H a≠none->K.lookup a=none) ->
   codeAny (model P w) callerA (.call (.ref T) ⟨[.ref a],[]⟩) (λr l=>r=.ok (.ret (.bool true))/\OldK f.heap l.heap/\l.os=f.os/\AllBare l.gens) f:=by
  intro H hO hS J hA hK;have g:∀{b:Addr}{o:Obj},f.heap.get? b=some o->H b=none->(hidT f.heap H).get? b=some o:=λe n=>yet e n
  have Z:∀{b:Addr}{o:Obj}{L:Array DictEntry}{M:Nat},f.heap.get? b=some o->o.data=.dict L M->H b=none:=λ{b o L M} e d=>by
   cases q:H b with
   |none=>rfl
   |some u=>
    have e':b=a:=hA b (by rw[q];simp);subst e';rw[R] at e;cases e;have d':Data.seq A.toArray _=Data.dict L M:=d;cases d'
  have p:∀{b:Addr}{m:Str->Option Value},f.heap.Ns b m->(hidT f.heap H).Ns b m:=λ{b m} ⟨o,L,M,e,d,r⟩=>⟨o,L,M,g e (Z e d),d,r⟩
  have N:K.In (hidT f.heap H):=λb o e=>g (KX b o e) (by
   cases q:H b with
   |none=>rfl
   |some u=>
    have e':b=a:=hA b (by rw[q];simp);subst e';rw[hK (by rw[q];simp)] at e;cases e)
  have hM:Mod K C (hidT f.heap H):=⟨N,p E,⟨S,p i,U⟩,let ⟨mc,h1,h2⟩:=G;⟨mc,p h1,h2⟩⟩;have e0:Env0 P w K C (hidT f.heap H) callerA [] f H:=⟨rfl,hM,λb o e=>ylk e,Ge (zyy _ _),trivial,λb i=>absurd (show b∈([]:List Addr) from i) vC,J,.of_eq hg⟩;refine Vl ((F _ N (p E)).run callerA [] f H ⟨[.ref a],[]⟩ [.ref a] [.ref a] _ _ hr e0 (B f (.ref a)) #v[rfl] (X H hO hS)) λr l h=>?_;cases r with
  |error e=>exact(Y H e l h).elim
  |ok fl=>
   cases fl with
   |next=>exact False.elim h
   |brk=>exact False.elim h
   |cont=>exact False.elim h
   |ret u=>
    obtain⟨v,H',os,bare,un,O,r',q⟩:=h
    have q':v=.bl true:=q;subst q';obtain rfl:u=Value.bool true:=r';refine⟨rfl,OldK.of_keep λb o e=>?_,os,bare⟩
    cases q:H b with
    |none=>exact un.keep b o e q (by intro z;exact absurd (show b∈([]:List Addr) from z) vC) vC
    |some u=>
     rcases hO b with z|⟨ob,xs,z⟩
     ·rw[q] at z;cases z
     ·have z2:=un.frzs b ob _ z;obtain⟨e1,_⟩:=J b _ z
      obtain⟨e2,_⟩:=O b _ z2
      rw[e] at e1;cases e1;exact e2
 cases hk:K.lookup a with
 |some o=>
  have e:=KX a o hk;rw[R] at e;cases e;refine t (λ_=>none) (λ_=>.inl rfl) (.inr ⟨_,A.toArray,_,hk,rfl,rfl,rfl,by rw[Zt,I];exact hl,by simpa using rv⟩) (λb u z=>by have Q:(none:Option HO)=some u:=z;cases Q) (λb z=>absurd rfl z) λz=>absurd rfl z
 |none=>
  refine t (λb=>if b=a then some (.frz {cls:=.type "list",data:=.seq A.toArray} (.lst (D.map V.int))) else none) (λb=>?_) (.inl (.inr ⟨{cls:=.type "list",data:=.seq A.toArray},if_pos rfl⟩)) (λb u z=>?_) (λb z=>?_) λ_=>hk
  ·by_cases i:b=a
   ·exact .inr ⟨_,_,if_pos i⟩
   ·exact .inl (if_neg i)
  ·by_cases i:b=a
   ·have Q:=(if_pos i).symm.trans z;cases Q;subst i;exact⟨R,by rw[Zc];exact hl,A,_,rv,R⟩
   ·have Q:=(if_neg i).symm.trans z;cases Q
  ·by_cases i:b=a
   ·exact i
   ·exact absurd (if_neg i) z
end L2
namespace L2
open PySem PySem.Spec PyProof.Rows
def walk_of{l:PySem.W.OpenLaw}{n k:Nat}{q:Program}{m:List Str}{R:(Str->Option Value)->Heap->Prop}{N:World->Heap->Prop}{d:DefRec}{K:Params->vE}{CX:World->CXT}{sp:World->Sp}{x:Str}
 (S:l.most=some n)(C:n<=sizeLine)(D:d.params.defaults=[])(U:Room k callerA)
 (X:∀(w:World) (h:Heap),N w h->(K w.params).In h)
 (F:∀(w:World) (r:Str->Option Value) (A:Addr) (h:Heap),(K w.params).In h->h.Ns mainGlobals r->r d.name=some (.ref A) ->
   ∃E:FuncData,(∀(s:Shared) (u:Value),BindsTo s E ⟨[u],[]⟩ [(x,u)]) /\
    ∀i:Heap,(K w.params).In i->i.Ns mainGlobals r->FnOk l.prog w (K w.params) r i (CX w) k A E [x] (sp w))
 (I:∀(w:World) (H:Hp) (a:Addr) (B:List Int),B.length<=n->Only H->SqL (K w.params) H a (B.map V.int)->sp w [.ref a] H (λv _=>v=.bl true) λ_ _ _=>False)
 (J:∀(w:World) (H:Hp) (s:Shared) (e:Value) (L:Shared),CX w [] H s (λ_ _ _=>False) e L->False):
  PySem.W.WalkO q m R N l.row.toRowW d [] (λf O=>PySem.call f O):=by
 refine Att.attach_call S D λw P t r mb A o pm cd Z a O B G Y ho hd a0 M z p j hg=>?_;have Q:=X w _ Y;obtain⟨E,hb,hF⟩:=F w r A _ Q G.T.g M
 exact yeo Q G.T.g G.T.b G.T.builtins G.T.nolimit hg z p (Wg j C) U hF hb (λH hO hS=>I w H a B j hO hS) λH e L=>J w H t e L
end L2
namespace L2
open PySem PySem.Spec PyProof.Rows
def zgc(s:Stmt)(j:Nat):Stmt:=match s with
 |.ClassDef _ _ _ body _ _ _ _ _ _ _=>body.getD j (.Pass ⟨0,0,0,0⟩)
 |_=>.Pass ⟨0,0,0,0⟩
def zbm(s:Stmt):Arguments:=match s with
 |.FunctionDef _ a _ _ _ _ _ _ _ _=>a
 |_=>{posonlyargs:=[],args:=[],vararg:=none,kwonlyargs:=[],kw_defaults:=[],kwarg:=none,defaults:=[]}
def Bl(s:Stmt):List Stmt:=match s with
 |.FunctionDef _ _ b _ _ _ _ _ _ _=>b
 |_=>[]
def Bj(s:Stmt):Scope:=match s with
 |.FunctionDef _ _ _ _ _ _ sc _ _ _=>sc
 |_=>{kind:=.function,names:=[],isGenerator:=false,isCoroutine:=false}
abbrev CX0:CXT:=λ_ _ _ _ _ _=>False
abbrev E0:XK:=λ_ _ _=>False
def ydq{X:Cx}:zpd CX0 X E0:=λ_ _ _ _ _ _ _ h=>h.elim
structure Fun(K:vE)(x qual:Str)(st:Stmt)(f:Addr)(fd:FuncData):Prop where
 ex:∃(oc:Value) (od:Option Addr) (kV doc pm:Value) (an:Option Addr) (cdv ct:Value) (osl:Array (Option Value)),
  fd=PySem.W.fnOf x qual (zbm st) (Bl st) (Bj st) .none kV doc pm an cdv ct/\K.lookup f=some ⟨oc,od,.func fd,osl⟩/\PySem.W.codeIn K cdv qual=true
 kp:PySem.W.keepIn K (.ref f)=true
section
variable{P:Program}{w:World}{K:vE}{mg:Str->Option Value}{base:Heap}
def Fun.ok{x qual:Str}{st:Stmt}{f:Addr}{fd:FuncData}{N g:List Str}{k:Nat}{sp:Sp}(F:Fun K x qual st f fd)(S:FnScope N g (Bj st))(len:∀d H Q E,sp d H Q E->d.length=g.length)
 (e:∀(cdv:Value) (A:Around) (outer:List Env) (s:Shared) (H:Hp) (d:List V) (Q:VK) (E:XK),Room k (A.deeper (envOfC qual (Bj st) s.heap.objs.size f cdv))->sp d H Q E ->
   ∃t,PSs (cxOf CX0 P w K mg base N qual (Bj st) f cdv A outer s H E).nox (Bl st) t/\t {nx:=λ_ l=>Q .non l,rt:=Q} (start N d) H):FnOk P w K mg base CX0 (k+1) f fd g sp:=by
 obtain⟨oc,od,kV,doc,pm,an,cdv,ct,osl,rfl,lk,i⟩:=F.ex
 refine fn_of lk i S len λA outer s H d Q E m j=>?_;obtain⟨t,h,q⟩:=e cdv A outer s H d Q E m j
 exact⟨t,h.nox,q⟩
def Fun.binds{x qual:Str}{st:Stmt}{f:Addr}{fd:FuncData}{d:List Str}(F:Fun K x qual st f fd)
 (h:∀(kV doc pm:Value) (an:Option Addr) (cdv ct:Value) (e:List Value),e.length=d.length->bindArgs (PySem.W.fnOf x qual (zbm st) (Bl st) (Bj st) .none kV doc pm an cdv ct) ⟨e,[]⟩=pure (d.zip e)):Binds K fd d []:=by
 obtain⟨oc,od,kV,doc,pm,an,cdv,ct,osl,rfl,lk,g⟩:=F.ex
 exact .all (h kV doc pm an cdv ct)
def zsp{x d:Str}{st:Stmt}{f:Addr}{m:Value}{n i:Option Addr}{h:Array (Option Value)}{kV g j e ct:Value}(l:K.lookup f=some ⟨m,n,.func (PySem.W.fnOf x d (zbm st) (Bl st) (Bj st) .none kV g j i e ct),h⟩)
 (c:PySem.W.codeIn K e d=true)(k:PySem.W.keepIn K (.ref f)=true):Fun K x d st f (PySem.W.fnOf x d (zbm st) (Bl st) (Bj st) .none kV g j i e ct):=⟨⟨m,n,kV,g,j,i,e,ct,h,rfl,l,c⟩,k⟩
end
def zwh{n:Nat}(h:n<=1000):n<sizeLine:=Ye h vA
section
variable{X:Cx}
end
def iteF{A B:Prop}(h:B):if false=true then A else B:=by
 rw[if_neg Zw];exact h
def iteT{A B:Prop}(h:A):if true=true then A else B:=by
 rw[if_pos rfl];exact h
def Same(H d:Hp):Prop:=∀b o,H b=some o->d b=some o
def Same.refl(H:Hp):Same H H:=λ_ _ h=>h
def Same.trans{H d e:Hp}(a:Same H d)(b:Same d e):Same H e:=λc o h=>b c o (a c o h)
def Same.free{H d:Hp}(e:Same H d){l:Addr}(h:d l=Option.none):H l=Option.none:=by
 cases q:H l with
 |none=>rfl
 |some o=>
  rw[e l o q] at h;cases h
def Same.seq{K:vE}{H d:Hp}{a:Addr}{f:List V}(e:Same H d)(h:SqL K H a f):SqL K d a f:=by
 rcases h with(h|⟨o,h⟩)|h
 ·exact .inl (.inl (e _ _ h))
 ·exact .inl (.inr ⟨o,e _ _ h⟩)
 ·exact .inr h
end L2
namespace DL
open PySem L2
inductive D where
 |non|bl (b:Bool)|int (i:Int)|tup (l:List D)|lst (l:List D)|exc (x:Str)|obj (a:Addr) (l:List D)
def flds:List Str:=["place","side","least","closing"]
def ExcO(a C:Addr):HO:=.ext λh=>∃o d,h.get? a=some o/\o.cls=.ref C/\o.data=.fields d
mutual
def Den(K:vE)(F:Hp):D->V->Prop
 |.non,v=>v=.non
 |.bl b,v=>v=.bl b
 |.int i,v=>v=.int i
 |.tup l,v=>∃a d,v=.ref a/\SqT K F a d/\DenL K F l d
 |.lst l,v=>∃a d,v=.ref a/\SqL K F a d/\DenL K F l d
 |.exc x,v=>∃a C,v=.ref a/\PySem.W.nsIn K mainGlobals x=some (some (.ref C))/\F a=some (ExcO a C)
 |.obj a l,v=>v=.ref a/\∃C g e d,PySem.W.nsIn K mainGlobals "Bound" = some (some (.ref C))/\F a=some (.ins C g e)/\(flds.map λf=>e.lookup f)=d.map some/\DenL K F l d
def DenL(K:vE)(F:Hp):List D->List V->Prop
 |[],e=>e=[]
 |d::l,e=>∃v f,e=v::f/\Den K F d v/\DenL K F l f
end
def Same.tup{K:vE}{H d:Hp}{a:Addr}{f:List V}(e:Same H d)(h:SqT K H a f):SqT K d a f:=by
 rcases h with(h|⟨o,h⟩)|h
 ·exact .inl (.inl (e _ _ h))
 ·exact .inl (.inr ⟨o,e _ _ h⟩)
 ·exact .inr h
mutual
theorem Den.mono{K:vE}{F g:Hp}(s:Same F g):∀(d:D){v:V},Den K F d v->Den K g d v
 |.non,_,h=>by simpa only[Den] using h
 |.bl _,_,h=>by simpa only[Den] using h
 |.int _,_,h=>by simpa only[Den] using h
 |.tup l,_,h=>by
  simp only[Den] at h |-;obtain⟨a,f,e,q,r⟩:=h
  exact⟨a,f,e,Same.tup s q,DenL.mono s l r⟩
 |.lst l,_,h=>by
  simp only[Den] at h |-;obtain⟨a,f,e,q,r⟩:=h
  exact⟨a,f,e,s.seq q,DenL.mono s l r⟩
 |.exc _,_,h=>by
  simp only[Den] at h |-;obtain⟨a,C,e,q,r⟩:=h
  exact⟨a,C,e,q,s _ _ r⟩
 |.obj _ l,_,h=>by
  simp only[Den] at h |-;obtain⟨e,C,i,j,f,c,q,k,r⟩:=h
  exact⟨e,C,i,j,f,c,s _ _ q,k,DenL.mono s l r⟩
theorem DenL.mono{K:vE}{F f:Hp}(s:Same F f):∀(l:List D){g:List V},DenL K F l g->DenL K f l g
 |[],_,h=>by simpa only[DenL] using h
 |d::l,_,h=>by
  simp only[DenL] at h |-;obtain⟨v,i,e,q,r⟩:=h
  exact⟨v,i,e,Den.mono s d q,DenL.mono s l r⟩
end
section
variable{K:vE}{F F':Hp}
def DenL.nil:DenL K F [] []:=by simp only[DenL]
def DenL.cons{d:D}{l:List D}{v:V}{e:List V}(h:Den K F d v)(r:DenL K F l e):DenL K F (d::l) (v::e):=by
 simp only[DenL];exact⟨v,e,rfl,h,r⟩
def DenL.inv_nil{d:List V}(h:DenL K F [] d):d=[]:=by simpa only[DenL] using h
def DenL.inv_cons{d:D}{l:List D}{e:List V}(h:DenL K F (d::l) e):∃v f,e=v::f/\Den K F d v/\DenL K F l f:=by simpa only[DenL] using h
theorem DenL.length:∀{l:List D}{f:List V},DenL K F l f->f.length=l.length
 |[],_,h=>by rw[h.inv_nil];rfl
 |d::l,_,h=>by
  obtain⟨v,g,e,_,r⟩:=h.inv_cons
  subst e;rw[Zv,Zv,r.length]
theorem DenL.get:∀{l:List D}{f:List V}{i:Nat}{d:D},DenL K F l f->l[i]? = some d->∃v,f[i]? = some v/\Den K F d v
 |[],_,_,_,_,e=>by simp at e
 |d::l,_,0,g,h,e=>by
  obtain⟨v,j,z,q,r⟩:=h.inv_cons
  subst z;simp at e;subst e
  exact⟨v,by simp,q⟩
 |d::l,_,i+1,g,h,e=>by
  obtain⟨v,j,z,q,r⟩:=h.inv_cons
  subst z;obtain⟨u,m,n⟩:=DenL.get (i:=i) (d:=g) r (by simpa using e)
  exact⟨u,by simpa using m,n⟩
theorem DenL.append:∀{l m:List D}{f e:List V},DenL K F l f->DenL K F m e->DenL K F (l++m) (f++e)
 |[],_,_,_,h,q=>by rw[h.inv_nil];simpa using q
 |d::l,m,_,e,h,q=>by
  obtain⟨v,g,z,p,r⟩:=h.inv_cons
  subst z;exact DenL.cons p (DenL.append r q)
theorem DenL.take:∀{l:List D}{e:List V}(n:Nat),DenL K F l e->DenL K F (l.take n) (e.take n)
 |[],_,n,h=>by rw[h.inv_nil];simpa using DenL.nil
 |_::_,_,0,_=>by simpa using DenL.nil
 |d::l,_,n+1,h=>by
  obtain⟨v,f,z,p,r⟩:=h.inv_cons
  subst z;exact DenL.cons p (DenL.take n r)
theorem DenL.drop:∀{l:List D}{e:List V}(n:Nat),DenL K F l e->DenL K F (l.drop n) (e.drop n)
 |[],_,n,h=>by rw[h.inv_nil];simpa using DenL.nil
 |_::_,_,0,h=>by simpa using h
 |d::l,_,n+1,h=>by
  obtain⟨v,f,z,p,r⟩:=h.inv_cons
  subst z;simpa using DenL.drop n r
theorem DenL.ints:∀(d:List Int),DenL K F (d.map D.int) (d.map V.int)
 |[]=>DenL.nil
 |n::d=>DenL.cons (by simp only[Den]) (DenL.ints d)
theorem Den.int{i:Int}{v:V}(h:Den K F (.int i) v):v=.int i:=by simpa only[Den] using h
theorem Den.bl{b:Bool}{v:V}(h:Den K F (.bl b) v):v=.bl b:=by simpa only[Den] using h
theorem Den.non{v:V}(h:Den K F .non v):v=.non:=by simpa only[Den] using h
theorem Den.tup{l:List D}{v:V}(h:Den K F (.tup l) v):∃a d,v=.ref a/\SqT K F a d/\DenL K F l d:=by simpa only[Den] using h
theorem Den.lst{l:List D}{v:V}(h:Den K F (.lst l) v):∃a d,v=.ref a/\SqL K F a d/\DenL K F l d:=by simpa only[Den] using h
theorem Den.exc{x:Str}{v:V}(h:Den K F (.exc x) v):∃a C,v=.ref a/\PySem.W.nsIn K mainGlobals x=some (some (.ref C))/\F a=some (ExcO a C):=by simpa only[Den] using h
theorem Den.obj{a:Addr}{l:List D}{v:V}(h:Den K F (.obj a l) v):v=.ref a/\∃C g d e,PySem.W.nsIn K mainGlobals "Bound" = some (some (.ref C))/\F a=some (.ins C g d)/\(flds.map λf=>d.lookup f)=e.map some/\DenL K F l e:=by simpa only[Den] using h
def Den.obj_mk{a C e:Addr}{l:List D}{d:List (Str×V)}{xs:List V}(c:PySem.W.nsIn K mainGlobals "Bound" = some (some (.ref C)))(q:F a=some (.ins C e d))(k:(flds.map λf=>d.lookup f)=xs.map some)(r:DenL K F l xs):Den K F (.obj a l) (.ref a):=by simp only[Den];exact⟨trivial,C,e,d,xs,c,q,k,r⟩
def Den.int_mk{i:Int}:Den K F (.int i) (.int i):=by simp only[Den]
def Den.bl_mk{b:Bool}:Den K F (.bl b) (.bl b):=by simp only[Den]
def Den.non_mk:Den K F .non .non:=by simp only[Den]
def Den.tup_mk{l:List D}{a:Addr}{d:List V}(q:SqT K F a d)(r:DenL K F l d):Den K F (.tup l) (.ref a):=by simp only[Den];exact⟨a,d,rfl,q,r⟩
def Den.lst_mk{l:List D}{a:Addr}{d:List V}(q:SqL K F a d)(r:DenL K F l d):Den K F (.lst l) (.ref a):=by simp only[Den];exact⟨a,d,rfl,q,r⟩
end
inductive W where
 |val (d:D)|new (l:List D)
def W.d:W->D
 |.val d=>d
 |.new l=>.lst l
abbrev Rho:=List (Option D)
structure ER(K:vE)(H0 Fc F H:Hp)(σ:St)(ρ:Rho):Prop where
 sub:Same F H
 same:Same H0 H
 base:Same Fc F
 new:∀a o,F a=some o->Fc a=some o\/H0 a=none
 env:∀(i:Nat) d,ρ[i]? = some (some d)->∃v,σ[i]? = some (some v)/\Den K F d v
def RW(K:vE)(f F H:Hp):W->V->Prop
 |.val d,v=>Den K F d v
 |.new l,v=>∃a e,v=.ref a/\F a=none/\f a=none/\H a=some (.lst e)/\DenL K F l e
def zaw{F:Hp}{a:Addr}{o:HO}(h:F a=none):Same F (upd F a o):=λb u e=>by
 rw[Bo (λz=>by subst z;rw[h] at e;cases e)];exact e
section
variable{K:vE}{H0 Fc F H:Hp}{σ:St}{ρ:Rho}
def ER.lay(R:ER K H0 Fc F H σ ρ){a:Addr}(o:HO)(g:H a=none):ER K H0 Fc (upd F a o) (upd H a o) σ ρ/\Same F (upd F a o):=by
 have j:F a=none:=by
  cases q:F a with
  |none=>rfl
  |some u=>rw[R.sub a u q] at g;cases g
 have l:H0 a=none:=R.same.free g;have h:=zaw (o:=o) j;refine⟨⟨λb u e=>?_,R.same.trans (zaw g),R.base.trans h,λb u e=>?_,λi d e=>?_⟩,h⟩
 ·by_cases f:b=a
  ·subst f;rw[Bs] at e |-;exact e
  ·rw[Bo f] at e |-;exact R.sub b u e
 ·by_cases f:b=a
  ·subst f;exact .inr l
  ·rw[Bo f] at e;exact R.new b u e
 ·obtain⟨v,m,n⟩:=R.env i d e
  exact⟨v,m,n.mono h⟩
def ER.freeze(R:ER K H0 Fc F H σ ρ){a:Addr}{g:List V}(j:F a=none)(l:H0 a=none)(m:H a=some (.lst g)):ER K H0 Fc (upd F a (.lst g)) H σ ρ/\Same F (upd F a (.lst g)):=by
 have h:=zaw (o:=.lst g) j;refine⟨⟨λb u e=>?_,R.same,R.base.trans h,λb u e=>?_,λi d e=>?_⟩,h⟩
 ·by_cases f:b=a
  ·subst f;rw[Bs] at e;cases e;exact m
  ·rw[Bo f] at e;exact R.sub b u e
 ·by_cases f:b=a
  ·subst f;exact .inr l
  ·rw[Bo f] at e;exact R.new b u e
 ·obtain⟨v,n,p⟩:=R.env i d e
  exact⟨v,n,p.mono h⟩
theorem RW.freeze{w:W}{v:V}(R:ER K H0 Fc F H σ ρ)(h:RW K H0 F H w v):∃f,Same F f/\ER K H0 Fc f H σ ρ/\Den K f w.d v:=by
 cases w with
 |val d=>exact⟨F,Same.refl _,R,h⟩
 |new l=>
  obtain⟨a,n,e,g,i,j,r⟩:=h
  subst e;obtain⟨m,s⟩:=R.freeze g i j
  exact⟨_,s,m,Den.lst_mk (SqL.of Bs) (r.mono s)⟩
end
section
variable(K:vE)(H0 Fc:Hp)(ρ:Rho)
def tD(w:W):TE:=λf H Q=>∃F,ER K H0 Fc F H f ρ/\∀v d e,Same F e->ER K H0 Fc e d f ρ->RW K H0 e d w v->Q v d
def tDf(d:D):TE:=λf H Q=>∃F,ER K H0 Fc F H f ρ/\∀v g e,Same F e->ER K H0 Fc e g f ρ->Den K e d v->Q v g
def tDA(h:List D):TA:=λe H Q=>∃F,ER K H0 Fc F H e ρ/\∀f g d,Same F d->ER K H0 Fc d g e ρ->DenL K d h f->Q f g
def tDT(b:Bool):TT:=λd H Q=>∃F,ER K H0 Fc F H d ρ/\∀e f,Same F f->ER K H0 Fc f e d ρ->Q b e
end
def PE.mono{X:Cx}{e:Expr}{t g:TE}(h:PE X e t)(k:∀d H Q,g d H Q->t d H Q):PE X e g:=λf s d H Q I q=>h f s d H Q I (k d H Q q)
def PT.mono{X:Cx}{e:Expr}{t g:TT}(h:PT X e t)(k:∀d H Q,g d H Q->t d H Q):PT X e g:=λf s d H Q I q=>h f s d H Q I (k d H Q q)
def PW.mono{X:Cx}{e:Expr}{t g:TT}(h:PW X e t)(k:∀d H Q,g d H Q->t d H Q):PW X e g:=λi f s d H Q I q=>h i f s d H Q I (k d H Q q)
def PA.mono{X:Cx}{e:List Expr}{t g:TA}(h:PA X e t)(k:∀d H Q,g d H Q->t d H Q):PA X e g:=λpos f s d H Q I q=>h pos f s d H Q I (k d H Q q)
def PS.mono{X:Cx}{e:Stmt}{t g:TS}(h:PS X e t)(k:∀D d H,g D d H->t D d H):PS X e g:=λf s d H D I q=>h f s d H D I (k D d H q)
def PSs.mono{X:Cx}{e:List Stmt}{t g:TS}(h:PSs X e t)(k:∀D d H,g D d H->t D d H):PSs X e g:=λf s d H D I q=>h f s d H D I (k D d H q)
def DE(X:Cx)(e:Expr)(d:Rho)(w:W):Prop:=∀f g,PE X e (tD X.K f g d w)
def DF(X:Cx)(e:Expr)(f:Rho)(d:D):Prop:=∀g h,PE X e (tDf X.K g h f d)
def DA(X:Cx)(d:List Expr)(e:Rho)(f:List D):Prop:=∀g h,PA X d (tDA X.K g h e f)
def DT(X:Cx)(e:Expr)(d:Rho)(b:Bool):Prop:=∀f g,PT X e (tDT X.K f g d b)
def DW(X:Cx)(e:Expr)(d:Rho)(b:Bool):Prop:=∀f g,PW X e (tDT X.K f g d b)
section
variable{X:Cx}{e a b c:Expr}{es:List Expr}{ρ:Rho}{w:W}{pos:Pos}
def DE.df(h:DE X e ρ w):DF X e ρ w.d:=λf g=>PE.mono (h f g) λo H Q ⟨F,R,k⟩=>
 ⟨F,R,λv i p s j q=>by
  obtain⟨l,m,R2,n⟩:=RW.freeze j q
  exact k v i l (s.trans m) R2 n⟩
def DF.de{d:D}(h:DF X e ρ d):DE X e ρ (.val d):=λf g=>PE.mono (h f g) λm H Q ⟨F,R,k⟩=>⟨F,R,λv i j s l q=>k v i j s l q⟩
def DF.var{i:Nat}{x:Str}{d:D}(f:X.N[i]? = some x)(g:Vis X.env.scope x)(h:(x == ("__debug__" : Str))=false)(e:(x == ("__classdict__" : Str))=false)(j:ρ[i]? = some (some d)):DF X (.Name x pos) ρ d:=λn o=>
 PE.mono (zat f g h e) λp H Q ⟨F,R,k⟩=>by
  obtain⟨v,l,m⟩:=R.env i d j
  exact⟨v,l,k v H F (Same.refl _) R m⟩
def DF.cint{i:Int}{j}:DF X (.Constant (.int i) j pos) ρ (.int i):=λd e=>PE.mono pe_int λf H Q ⟨F,R,k⟩=>k _ H F (Same.refl _) R Den.int_mk
def DF.cbl{i:Bool}{j}:DF X (.Constant (.bool i) j pos) ρ (.bl i):=λd e=>PE.mono pe_bl λf H Q ⟨F,R,k⟩=>k _ H F (Same.refl _) R Den.bl_mk
def DF.cnon{j}:DF X (.Constant .none j pos) ρ .non:=λd e=>PE.mono yhf λf H Q ⟨F,R,k⟩=>k _ H F (Same.refl _) R Den.non_mk
def zed{x y:D}{e f:Hp}{r:R2}{w:W}{K:vE}
 (l:∀H F d v u (Q:VK),ER K e f F H d ρ->Den K F x v->Den K F y u->(∀i g h,Same F h->ER K e f h g d ρ->RW K e h g w i->Q i g)->r v u H Q):
  ∀d H Q,tD K e f ρ w d H Q->tOp r (tDf K e f ρ x) (tDf K e f ρ y) d H Q:=λd H Q ⟨F,R,k⟩=>
 ⟨F,R,λv C m n o p=>⟨m,o,λu q s j R2 t=>l q s d v u Q R2 (p.mono j) t λi g h z A B=>k i g h ((n.trans j).trans z) A B⟩⟩
def DE.opI{d:Operator}{C:Int->Int->Prop}{g:Int->Int->V}{x y:Int}{z:D}(h:OpR X (binaryOp d) (rI C g))(i:DF X a ρ (.int x))(j:DF X b ρ (.int y))(l:C x y)(m:∀K F,Den K F z (g x y)):
  DE X (.BinOp a d b pos) ρ (.val z):=λe f=>PE.mono (yky h (i e f) (j e f)) (zed λH F r v u Q R n o k=>by
   have p:=n.int;have q:=o.int;subst p;subst q;exact⟨x,y,rfl,rfl,l,k _ H F (Same.refl _) R (m _ _)⟩)
def DE.opI0{d:Operator}{g:Int->Int->V}{x y:Int}{z:D}(h:OpR X (binaryOp d) (rI0 g))(i:DF X a ρ (.int x))(j:DF X b ρ (.int y))(l:∀K F,Den K F z (g x y)):
  DE X (.BinOp a d b pos) ρ (.val z):=λe f=>PE.mono (yky h (i e f) (j e f)) (zed λH F q v u Q R m n k=>by
   have o:=m.int;have p:=n.int;subst o;subst p;exact⟨x,y,rfl,rfl,k _ H F (Same.refl _) R (l _ _)⟩)
end
open PySem L2 PyProof.Rows
section
variable{K:vE}{H0 Fc F H:Hp}{σ:L2.St}{ρ:Rho}
def ER.put(R:ER K H0 Fc F H σ ρ){a:Addr}(o:HO)(d:H a=none):ER K H0 Fc F (upd H a o) σ ρ/\F a=none/\H0 a=none:=by
 have e:F a=none:=by
  cases q:F a with
  |none=>rfl
  |some u=>rw[R.sub a u q] at d;cases d
 exact⟨⟨R.sub.trans (zaw d),R.same.trans (zaw d),R.base,R.new,R.env⟩,e,R.same.free d⟩
end
section
variable{K:vE}{H0 F H:Hp}
theorem RW.v{d:D}{v:V}(h:Den K F d v):RW K H0 F H (.val d) v:=h
theorem RW.int{i:Int}:RW K H0 F H (.val (.int i)) (.int i):=RW.v Den.int_mk
theorem RW.bl{i:Bool}:RW K H0 F H (.val (.bl i)) (.bl i):=RW.v Den.bl_mk
def RW.n{l:List D}{a:Addr}{d:List V}(e:F a=none)(f:H0 a=none)(g:H a=some (.lst d))(h:DenL K F l d):RW K H0 F H (.new l) (.ref a):=⟨a,d,rfl,e,f,g,h⟩
end
section
variable{X:Cx}{e a b c:Expr}{es:List Expr}{ρ:Rho}{w:W}{pos:Pos}
def yix{x:D}{e h:Hp}{r:V->Hp->VK->Prop}{w:W}{K:vE}
 (j:∀H F d v (Q:VK),ER K e h F H d ρ->Den K F x v->(∀i f g,Same F g->ER K e h g f d ρ->RW K e g f w i->Q i f)->r v H Q):
  ∀d H Q,tD K e h ρ w d H Q->tUn r (tDf K e h ρ x) d H Q:=λd H Q ⟨F,R,k⟩=>
 ⟨F,R,λv l m n o p=>j l m d v Q o p λi f g q s t=>k i f g (n.trans q) s t⟩
def DE.neg{x:Int}(d:DF X a ρ (.int x)):DE X (.UnaryOp .USub a pos) ρ (.val (.int (-x))):=λe f=>PE.mono (pe_un un_neg (d e f)) (yix λH F i v Q R g k=>by
 have h:=g.int;subst h;exact⟨x,rfl,k _ H F (Same.refl _) R RW.int⟩)
def Bm:Expr->Bool
 |.Starred _ _=>false
 |_=>true
def Bu{env:Env}(h:Bm e=true):starEach (e::es) env=(false,eval e env)::starEach es env:=by
 cases e<;>first|rfl|(cases h;done)
theorem zdm{env:Env}:∀{es:List Expr},es.all Bm=true->(backTo pos (starEach es env)).any (·.1)=false
 |[],_=>rfl
 |e::es,h=>by
  rw[Qe,Zk] at h;rw[Bu h.1];show(false || (backTo pos (starEach es env)).any (·.1))=false;rw[zdm h.2];rfl
theorem DA.nil:DA X [] ρ []:=λd e=>PA.mono zgk λf H Q ⟨F,R,k⟩=>k [] H F (Same.refl _) R DenL.nil
theorem DA.cons{d:D}{f:List D}(j:DF X e ρ d)(l:DA X es ρ f)(m:Bm e=true):DA X (e::es) ρ (d::f):=λg h=>
 PA.mono (zda (j g h) (l g h) (Bu m)) λw H Q ⟨F,R,k⟩=>
  ⟨F,R,λv z n o p q=>⟨n,p,λr s t i R2 u=>k (v::r) s t (o.trans i) R2 (DenL.cons (q.mono i) u)⟩⟩
theorem DE.tup{d:List D}{g}(h:DA X es ρ d)(i:d.length<=sizeLine):DE X (.Tuple es g pos) ρ (.val (.tup d)):=λj l=>PE.mono (pe_tup (h j l)) λr H Q ⟨F,R,k⟩=>
 ⟨F,R,λm s t n o e=>⟨by rw[e.length];exact i,λp q=>by
  obtain⟨R2,f⟩:=o.lay (.tup m) q
  exact k _ _ _ (n.trans f) R2 (RW.v (Den.tup_mk (SqT.of Bs) (e.mono f)))⟩⟩
theorem DE.lst{d:List D}(f:DA X es ρ d)(g:d.length<=sizeLine):DE X (.List es pos) ρ (.new d):=λh i=>PE.mono (zxq (f h i)) λs H Q ⟨F,R,k⟩=>
 ⟨F,R,λj t u l m e=>⟨by rw[e.length];exact g,λp o=>by
  obtain⟨R2,q,r⟩:=m.put (.lst j) o
  exact k _ _ _ l R2 (RW.n q r Bs e)⟩⟩
def zdz:Expr->Bool
 |.Slice _ _ _ _=>false
 |_=>true
def zxm(h:zdz b=true):ybm b:=λo i=>by
 cases b<;>first|rfl|(cases h;done)
def ybe{K:vE}{F:Hp}{l:List D}{f:List V}{i:Int}{d:D}(h:DenL K F l f)(e:atI l i=some d):∃v,atI f i=some v/\Den K F d v:=by
 unfold atI at e |-;rw[h.length];cases q:ixN l.length i with
 |none=>rw[q] at e;cases e
 |some j=>
  rw[q] at e;exact h.get e
def DE.ixT{l:List D}{i:Int}{d:D}(g:DF X a ρ (.tup l))(h:DF X b ρ (.int i))(j:zdz b=true)(m:atI l i=some d):DE X (.Subscript a b pos) ρ (.val d):=λe f=>
 PE.mono (pe_ix ix_tup (g e f) (h e f) (zxm j)) (zed λH F B v u Q R n o k=>by
  obtain⟨p,q,s,t,r⟩:=n.tup
  have w:=o.int;subst s;subst w;obtain⟨y,z,A⟩:=ybe r m
  exact⟨p,q,i,y,rfl,rfl,Same.tup R.sub t,z,k _ H F (Same.refl _) R (RW.v A)⟩)
def DE.ixL{l:List D}{i:Int}{d:D}(g:DF X a ρ (.lst l))(h:DF X b ρ (.int i))(j:zdz b=true)(m:atI l i=some d):DE X (.Subscript a b pos) ρ (.val d):=λe f=>
 PE.mono (pe_ix ymm (g e f) (h e f) (zxm j)) (zed λH F B v u Q R n o k=>by
  obtain⟨p,q,s,t,r⟩:=n.lst
  have w:=o.int;subst s;subst w;obtain⟨y,z,A⟩:=ybe r m
  exact⟨p,q,i,y,rfl,rfl,R.sub.seq t,z,k _ H F (Same.refl _) R (RW.v A)⟩)
def DO(X:Cx)(e:Option Expr)(ρ:Rho)(o:Option Int):Prop:=∀d f,PO X e (λg H Q=>∃F,ER X.K d f F H g ρ/\∀h i,Same F i->ER X.K d f i h g ρ->Q o h)
theorem DO.none:DO X none ρ none:=λe f pins s d H Q I ⟨F,R,k⟩=>ykx pins s d H Q I (k H F (Same.refl _) R)
theorem DO.some{i:Int}(h:DF X e ρ (.int i)):DO X (some e) ρ (some i):=λd f pins s g H Q I ⟨F,R,k⟩=>ykw (h d f) pins s g H Q I
 ⟨F,R,λv j l m n o=>⟨i,o.int,k j l m n⟩⟩
def cutD(l:List D)(d e:Option Int):List D:=(l.drop (HT.sIx l.length 0 d)).take (HT.sIx l.length l.length e-HT.sIx l.length 0 d)
def yfi{K:vE}{F:Hp}{l:List D}{d:List V}{e f:Option Int}(h:DenL K F l d):DenL K F (cutD l e f) (cutV d e f):=by
 unfold cutD cutV;rw[h.length];exact(h.drop _).take _
def DE.slL{l:List D}{h m:Option Expr}{i j:Option Int}{t:Pos}(u:DF X a ρ (.lst l))(w:DO X h ρ i)(z:DO X m ρ j):DE X (.Subscript a (.Slice h m none t) pos) ρ (.new (cutD l i j)):=λd e=>
 PE.mono (ydm yjn (u d e) (w d e) (z d e)) λO H Q ⟨F,R,k⟩=>⟨F,R,λv P A B C E=>⟨A,C,λS G f R2=>⟨G,R2,λH3 T g o=>by
  obtain⟨p,s,I,J,r⟩:=E.lst
  subst I;refine⟨p,s,rfl,o.sub.seq (g.seq (f.seq J)),λq K=>?_⟩
  obtain⟨L,M,N⟩:=o.put (.lst (cutV s i j)) K
  exact k _ _ _ (B.trans (f.trans g)) L (RW.n M N Bs (yfi ((r.mono f).mono g)))⟩⟩⟩
def spD(K:vE)(n:Nat)(g:∅):Sp:=λh H Q _=>∃F f w,Same F H/\DenL K F f h/\f.length=n/\g f=some w /\
 ∀v d e,Same H d->Same F e->Same e d->(∀a o,e a=some o->F a=some o\/H a=none)->RW K H e d w v->Q v d
def yiq(X:Cx)(x:Str)(n:Nat)(e:∅):Prop:=∃(k:Nat) (f:Addr) (d:FuncData) (ps:List Str),
 FnOk X.prog X.w X.K X.mg X.base CX0 k f d ps (spD X.K n e)/\Room k X.A/\X.mg x=some (.ref f)/\PySem.W.keepIn X.K (.ref f)=true/\Binds X.K d ps []
def ER.called{K:vE}{H0 Fc F H f g:Hp}{σ:L2.St}{ρ:Rho}(R:ER K H0 Fc F H σ ρ)(j:Same H g)(h:Same F f)(l:Same f g)(m:∀a o,f a=some o->F a=some o\/H a=none):ER K H0 Fc f g σ ρ:=
 ⟨l,R.same.trans j,R.base.trans h,λa o e=>(m a o e).elim (R.new a o) λz=>.inr (R.same.free z),λi d e=>by
  obtain⟨v,n,p⟩:=R.env i d e
  exact⟨v,n,p.mono h⟩⟩
def DE.call{x:Str}{p:Pos}{n:Nat}{m:∅}{g:List D}(r:yiq X x n m)(s:Gl X x)(h:(x == ("__debug__" : Str))=false)(t:DA X (e::es) ρ g)(u:g.length=n)(z:m g=some w)(A:Bm e=true)(i:es.all Bm=true):
  DE X (.Call (.Name x p) (e::es) [] pos) ρ w:=λB C=>by
 obtain⟨k,f,fd,ps,G,I,J,K,L⟩:=r
 refine PE.mono (zpy (E:=E0) G I s J K L .nil ydq (t B C) h (Bu A) (zdm i)) λσ H Q ⟨F,R,k⟩=>⟨F,R,λvs H1 M N j O=>?_⟩
 refine⟨M,g,w,j.sub,by rw[Jb];exact O,u,z,λv P S T o U V q=>k v P S (N.trans o) (j.called T o U V) ?_⟩
 cases w with
 |val d=>exact q
 |new l=>
  obtain⟨a,Y,Z,b1,b2,b3,b4⟩:=q
  exact⟨a,Y,Z,b1,j.same.free b2,b3,b4⟩
def DT.val{e:Expr}{k:Bool}(h:DF X e ρ (.bl k))(f:∀d,isTrue e X.env d=(do let v <-d;standAt e.pos;holding [v] (truthy v))):DT X e ρ k:=λg i=>
 PT.mono (pt_val (h g i) f) λp H Q ⟨F,R,q⟩=>⟨F,R,λv j l m n o=>⟨k,o.bl,q j l m n⟩⟩
def DT.not{k:Bool}(h:DT X a ρ k):DT X (.UnaryOp .Not a pos) ρ (!k):=λd e=>PT.mono (pt_not (h d e)) λl H Q ⟨F,R,q⟩=>⟨F,R,λf g i j=>q f g i j⟩
def DW.dt{k:Bool}(h:DW X e ρ k):DT X e ρ k:=λd f=>(h d f).pt
def DW.and1{k:Bool}(h:DT X a ρ k):DW X (.BoolOp .And [a] pos) ρ k:=λd e=>yko (h d e)
def DW.or1{k:Bool}(h:DT X a ρ k):DW X (.BoolOp .Or [a] pos) ρ k:=λd e=>pw_or1 (h d e)
def DW.andT{k:Bool}(h:DT X a ρ true)(f:DW X (.BoolOp .And (b::es) pos) ρ k):DW X (.BoolOp .And (a::b::es) pos) ρ k:=λd e=>PW.mono (ygz (h d e) (f d e)) λo H Q ⟨F,R,q⟩=>
 ⟨F,R,λp g i j=>iteT (⟨g,j,λl m n R2=>q l m (i.trans n) R2⟩)⟩
def DW.andF{tb}(h:DT X a ρ false)(d:PW X (.BoolOp .And (b::es) pos) tb):DW X (.BoolOp .And (a::b::es) pos) ρ false:=λe f=>PW.mono (ygz (h e f) d) λm H Q ⟨F,R,q⟩=>
 ⟨F,R,λg i j l=>iteF (q g i j l)⟩
def DW.orF{k:Bool}(h:DT X a ρ false)(f:DW X (.BoolOp .Or (b::es) pos) ρ k):DW X (.BoolOp .Or (a::b::es) pos) ρ k:=λd e=>PW.mono (pw_or (h d e) (f d e)) λo H Q ⟨F,R,q⟩=>
 ⟨F,R,λp g i j=>iteF (⟨g,j,λl m n R2=>q l m (i.trans n) R2⟩)⟩
def DW.orT{tb}(h:DT X a ρ true)(d:PW X (.BoolOp .Or (b::es) pos) tb):DW X (.BoolOp .Or (a::b::es) pos) ρ true:=λe f=>PW.mono (pw_or (h e f) d) λm H Q ⟨F,R,q⟩=>
 ⟨F,R,λg i j l=>iteT (q g i j l)⟩
def zrw:PW X e (λ_ _ _=>False):=λ_ _ _ _ _ _ _ h=>h.elim
def zhk:PE X e (λ_ _ _=>False):=λ_ _ _ _ _ _ h=>h.elim
def DE.not{k:Bool}(h:DF X a ρ (.bl k)):DE X (.UnaryOp .Not a pos) ρ (.val (.bl (!k))):=λd e=>PE.mono (pe_not (h d e)) λm H Q ⟨F,R,q⟩=>
 ⟨F,R,λv f g i j l=>⟨k,l.bl,q _ f g i j RW.bl⟩⟩
def DE.one{d}(h:DE X a ρ w):DE X (.BoolOp d [a] pos) ρ w:=λe f=>pe_one (h e f)
def DE.andT(h:DF X a ρ (.bl true))(f:DE X (.BoolOp .And (b::es) pos) ρ w):DE X (.BoolOp .And (a::b::es) pos) ρ w:=λd e=>PE.mono (yhg (h d e) (f d e)) λr H Q ⟨F,R,q⟩=>
 ⟨F,R,λv s g i j l=>⟨true,l.bl,iteT (⟨g,j,λv m n o R2 p=>q v m n (i.trans o) R2 p⟩)⟩⟩
def DE.andF(h:DF X a ρ (.bl false)):DE X (.BoolOp .And (a::b::es) pos) ρ (.val (.bl false)):=λd e=>PE.mono (yhg (h d e) zhk) λm H Q ⟨F,R,q⟩=>
 ⟨F,R,λv f g i j l=>⟨false,l.bl,iteF (q _ f g i j RW.bl)⟩⟩
def DE.orF(h:DF X a ρ (.bl false))(f:DE X (.BoolOp .Or (b::es) pos) ρ w):DE X (.BoolOp .Or (a::b::es) pos) ρ w:=λd e=>PE.mono (pe_or (h d e) (f d e)) λr H Q ⟨F,R,q⟩=>
 ⟨F,R,λv s g i j l=>⟨false,l.bl,iteF (⟨g,j,λv m n o R2 p=>q v m n (i.trans o) R2 p⟩)⟩⟩
def DE.orT(h:DF X a ρ (.bl true)):DE X (.BoolOp .Or (a::b::es) pos) ρ (.val (.bl true)):=λd e=>PE.mono (pe_or (h d e) zhk) λm H Q ⟨F,R,q⟩=>
 ⟨F,R,λv f g i j l=>⟨true,l.bl,iteT (q _ f g i j RW.bl)⟩⟩
def DE.ifT{c:Expr}(f:DT X c ρ true)(g:DE X a ρ w):DE X (.IfExp c a b pos) ρ w:=λd e=>PE.mono (zsb (f d e) (g d e) zhk) λp H Q ⟨F,R,q⟩=>
 ⟨F,R,λr h i j=>iteT (⟨h,j,λv l m n R2 o=>q v l m (i.trans n) R2 o⟩)⟩
def DE.ifF{c:Expr}(f:DT X c ρ false)(g:DE X b ρ w):DE X (.IfExp c a b pos) ρ w:=λd e=>PE.mono (zsb (f d e) zhk (g d e)) λp H Q ⟨F,R,q⟩=>
 ⟨F,R,λr h i j=>iteF (⟨h,j,λv l m n R2 o=>q v l m (i.trans n) R2 o⟩)⟩
def zcx(X:Cx)(d:CmpOp)(x y:D)(k:Bool):Prop:=∃r,OpR X (compareOp d) r /\
 ∀(H F:Hp) (v u:V) (Q:VK),Same F H->Den X.K F x v->Den X.K F y u->Q (.bl k) H->r v u H Q
def DE.cmp{d:CmpOp}{x y:D}{k:Bool}(g:zcx X d x y k)(h:DF X a ρ x)(i:DF X b ρ y)(j:behindInMarks d b=false):DE X (.Compare a [d] [b] pos) ρ (.val (.bl k)):=λe f=>by
 obtain⟨r,l,m⟩:=g
 exact PE.mono (yla l (h e f) (i e f) j) (zed λH F p v u Q R n o q=>m H F v u Q R.sub n o (q _ H F (Same.refl _) R RW.bl))
def DT.cmp{d:CmpOp}{x y:D}{k:Bool}(j:zcx X d x y k)(l:DF X a ρ x)(m:DF X b ρ y)(n:behindInMarks d b=false):DT X (.Compare a [d] [b] pos) ρ k:=λe f=>by
 obtain⟨r,o,p⟩:=j
 refine PT.mono (yku o (l e f) (m e f) n) λB H Q ⟨F,R,q⟩=>⟨F,R,λv C s t w z=>⟨s,w,λu g h i R2 A=>?_⟩⟩
 exact p g h v u _ R2.sub (z.mono i) A ⟨k,rfl,q g h (t.trans i) R2⟩
def cmpI{d:CmpOp}{g:Int->Int->Bool}{x y:Int}(e:OpR X (compareOp d) (rI0 λi j=>.bl (g i j))):zcx X d (.int x) (.int y) (g x y):=
 ⟨_,e,λH F v u Q s f h q=>⟨x,y,f.int,h.int,q⟩⟩
def cmp_lt{x y:Int}:zcx X .Lt (.int x) (.int y) (decide (x<y)):=cmpI op_lt
def cmp_le{x y:Int}:zcx X .LtE (.int x) (.int y) (decide (x<=y)):=cmpI op_le
def cmp_gt{x y:Int}:zcx X .Gt (.int x) (.int y) (decide (y<x)):=cmpI op_gt
def cmp_ge{x y:Int}:zcx X .GtE (.int x) (.int y) (decide (y<=x)):=cmpI op_ge
def yoc{x y:Int}:zcx X .Eq (.int x) (.int y) (decide (x=y)):=⟨_,op_eq,λH F v u Q s d e q=>by
 have f:=d.int;have g:=e.int;subst f;subst g;exact⟨rfl,by rw[zmf,Gb];exact q⟩⟩
def yny{x y:Int}:zcx X .NotEq (.int x) (.int y) (!decide (x=y)):=⟨_,op_ne,λH F v u Q s d e q=>by
 have f:=d.int;have g:=e.int;subst f;subst g;exact⟨rfl,by rw[zmf,Gb];exact q⟩⟩
def yod{x y:Bool}:zcx X .Eq (.bl x) (.bl y) (x == y):=⟨_,op_eq,λH F v u Q s d e q=>by
 have f:=d.bl;have g:=e.bl;subst f;subst g;exact⟨rfl,by rw[zsz];exact q⟩⟩
def ynz{x y:Bool}:zcx X .NotEq (.bl x) (.bl y) (!(x == y)):=⟨_,op_ne,λH F v u Q s d e q=>by
 have f:=d.bl;have g:=e.bl;subst f;subst g;exact⟨rfl,by rw[zsz];exact q⟩⟩
def zol:D->Bool
 |.non=>true
 |_=>false
def zok{K:vE}{F:Hp}{d:D}{v:V}(h:Den K F d v):decide (v=V.non)=zol d:=by
 cases d with
 |non=>rw[h.non];rfl
 |bl b=>rw[h.bl];rfl
 |int i=>rw[h.int];rfl
 |tup l=>obtain⟨a,f,e,_⟩:=h.tup;rw[e];rfl
 |lst l=>obtain⟨a,f,e,_⟩:=h.lst;rw[e];rfl
 |exc x=>obtain⟨a,C,e,_⟩:=h.exc;rw[e];rfl
 |obj a l=>rw[h.obj.1];rfl
def yoa{x:D}:zcx X .Is x .non (zol x):=⟨_,op_isN,λH F v u Q s d e q=>⟨e.non,by rw[zok d];exact q⟩⟩
def yfn{x:D}:zcx X .IsNot x .non (!zol x):=⟨_,ylh,λH F v u Q s d e q=>⟨e.non,by rw[zok d];exact q⟩⟩
def zha(X:Cx)(f:Value)(m:List D)(w:W):Prop:=∃r,zka X f r /\
 ∀(d h H F:Hp) (i:L2.St) (ρ:Rho) (j:List V) (Q:VK),ER X.K d h F H i ρ->DenL X.K F m j->(∀l e g,Same F g->ER X.K d h g e i ρ->RW X.K d g e w l->Q l e)->r j H Q
def DE.blt{x:Str}{id:String}{p:Pos}{g:List D}(j:zha X (.builtin id) g w)(l:Gl X x)(m:X.mg x=none)(n:bootBuiltins x=some (.builtin id))(o:x ≠ "__name__")(d:(x == ("__debug__" : Str))=false)(q:DA X (e::es) ρ g)(s:Bm e=true)(f:es.all Bm=true):
  DE X (.Call (.Name x p) (e::es) [] pos) ρ w:=λh i=>by
 obtain⟨r,t,u⟩:=j
 refine PE.mono (ydo t l m n (q h i) o d (Bu s) (zdm f)) λv H Q ⟨F,R,k⟩=>⟨F,R,λz A B C E G=>?_⟩
 exact u h i A B v ρ z Q E G λI J K L M N=>k I J K (C.trans L) M N
def DE.ty{x:Str}{id:String}{p:Pos}{g:List D}(j:zha X (.type id) g w)(l:Gl X x)(m:X.mg x=none)(n:bootBuiltins x=some (.type id))(o:x ≠ "__name__")(d:(x == ("__debug__" : Str))=false)(q:DA X (e::es) ρ g)(s:Bm e=true)(f:es.all Bm=true):
  DE X (.Call (.Name x p) (e::es) [] pos) ρ w:=λh i=>by
 obtain⟨r,t,u⟩:=j
 refine PE.mono (zxs t l m n (q h i) o d (Bu s) (zdm f)) λv H Q ⟨F,R,k⟩=>⟨F,R,λz A B C E G=>?_⟩
 exact u h i A B v ρ z Q E G λI J K L M N=>k I J K (C.trans L) M N
def DenL.one{K:vE}{F:Hp}{d:D}{f:List V}(h:DenL K F [d] f):∃v,f=[v]/\Den K F d v:=by
 obtain⟨v,r,e,q,z⟩:=h.inv_cons
 rw[z.inv_nil] at e;exact⟨v,e,q⟩
def DenL.two{K:vE}{F:Hp}{d g:D}{i:List V}(h:DenL K F [d,g] i):∃v f,i=[v,f]/\Den K F d v/\Den K F g f:=by
 obtain⟨v,r,e,q,z⟩:=h.inv_cons
 obtain⟨f,j,l⟩:=z.one
 rw[j] at e;exact⟨v,f,e,q,l⟩
def yol{i:Int}:zha X (.builtin "abs") [.int i] (.val (.int (if i<0 then -i else i))):=⟨_,yfq,λd f H F g ρ h Q R q k=>by
 obtain⟨v,e,q⟩:=q.one
 rw[q.int] at e;exact⟨i,e,k _ H F (Same.refl _) R RW.int⟩⟩
def yfz{l:List D}:zha X (.builtin "len") [.lst l] (.val (.int l.length)):=⟨_,zgo,λh i H F j ρ m Q R q k=>by
 obtain⟨v,e,q⟩:=q.one
 obtain⟨p,d,f,g,r⟩:=q.lst
 rw[f] at e;exact⟨p,d,e,.inl (R.sub.seq g),by rw[r.length];exact k _ H F (Same.refl _) R RW.int⟩⟩
def yfy{l:List D}:zha X (.builtin "len") [.tup l] (.val (.int l.length)):=⟨_,zgo,λh i H F j ρ m Q R q k=>by
 obtain⟨v,e,q⟩:=q.one
 obtain⟨p,d,f,g,r⟩:=q.tup
 rw[f] at e;exact⟨p,d,e,.inr (Same.tup R.sub g),by rw[r.length];exact k _ H F (Same.refl _) R RW.int⟩⟩
end
open PySem L2 PyProof.Rows
mutual
def lf:D->Bool
 |.non=>true
 |.bl _=>true
 |.int _=>true
 |.tup l=>lfL l
 |.lst _=>false
 |.exc _=>false
 |.obj _ _=>false
def lfL:List D->Bool
 |[]=>true
 |d::l=>lf d && lfL l
end
def lfW:W->Bool
 |.val d=>lf d
 |.new l=>lfL l
mutual
theorem Den.shrink{K:vE}{F i:Hp}(s:∀a g,SqT K F a g->SqT K i a g):∀(d:D){v:V},lf d=true->Den K F d v->Den K i d v
 |.non,_,_,h=>by simpa only[Den] using h
 |.bl _,_,_,h=>by simpa only[Den] using h
 |.int _,_,_,h=>by simpa only[Den] using h
 |.tup l,_,f,h=>by
  obtain⟨a,g,e,q,r⟩:=h.tup
  subst e;exact Den.tup_mk (s _ _ q) (DenL.shrink s l (by simpa only[lf] using f) r)
 |.lst l,_,f,h=>by simp only[lf] at f;cases f
 |.exc l,_,f,h=>by simp only[lf] at f;cases f
 |.obj _ _,_,f,h=>by simp only[lf] at f;cases f
theorem DenL.shrink{K:vE}{F i:Hp}(s:∀a g,SqT K F a g->SqT K i a g):∀(l:List D){g:List V},lfL l=true->DenL K F l g->DenL K i l g
 |[],_,_,h=>by simpa only[DenL] using h
 |d::l,_,f,h=>by
  simp only[lfL,Zk] at f;obtain⟨v,j,e,q,r⟩:=h.inv_cons
  subst e;exact DenL.cons (Den.shrink s d f.1 q) (DenL.shrink s l f.2 r)
end
inductive B where
 |sh (d:D)|ow (l:List D)
def B.d:B->D
 |.sh d=>d
 |.ow l=>.lst l
def W.b:W->B
 |.val d=>.sh d
 |.new l=>.ow l
abbrev RhoS:=List (Option B)
def view(e:RhoS):Rho:=e.map (Option.map B.d)
def frz(e:RhoS):RhoS:=e.map (Option.map λb=>.sh b.d)
def ybr{e:RhoS}{i:Nat}{d:D}(h:(view e)[i]? = some (some d)):∃b,e[i]? = some (some b)/\b.d=d:=by
 unfold view at h;rw[Zj] at h;cases q:e[i]? with
 |none=>rw[q] at h;cases h
 |some o=>
  rw[q] at h;cases o with
  |none=>cases h
  |some b=>exact⟨b,rfl,by simpa using h⟩
def zma{e:RhoS}{i:Nat}{b:B}(h:(frz e)[i]? = some (some b)):∃c,e[i]? = some (some c)/\b=.sh c.d:=by
 unfold frz at h;rw[Zj] at h;cases q:e[i]? with
 |none=>rw[q] at h;cases h
 |some o=>
  rw[q] at h;cases o with
  |none=>cases h
  |some c=>exact⟨c,rfl,by simpa using h.symm⟩
structure SR(K:vE)(H0 Fc F H:Hp)(σ:L2.St)(ρ:RhoS):Prop where
 sub:Same F H
 same:Same H0 H
 base:Same Fc F
 new:∀a o,F a=some o->Fc a=some o\/H0 a=none
 env:∀(i:Nat) d,ρ[i]? = some (~~~d)->∃v,σ[i]? = some (some v)/\Den K F d v
 own:∀(i:Nat) l,ρ[i]? = some (some (.ow l))->∃a xs,σ[i]? = some (some (.ref a))/\F a=none/\H0 a=none/\H a=some (.lst xs)/\DenL K F l xs
 dis:∀(i j:Nat) l m a,ρ[i]? = some (some (.ow l))->ρ[j]? = some (some (.ow m))->σ[i]? = some (some (.ref a))->σ[j]? = some (some (.ref a))->i=j
 len:σ.length=ρ.length
def Owned(d:L2.St)(e:RhoS)(a:Addr):Prop:=∃(i:Nat) (l:List D),e[i]? = some (some (.ow l))/\d[i]? = some (some (.ref a))
section
variable{K:vE}{H0 Fc F H:Hp}{σ:L2.St}{ρ:RhoS}
def SR.owned_none(S:SR K H0 Fc F H σ ρ){a:Addr}(h:Owned σ ρ a):F a=none/\H0 a=none/\∃d,H a=some (.lst d):=by
 obtain⟨i,l,f,g⟩:=h
 obtain⟨b,d,e,p,q,r,_⟩:=S.own i l f
 rw[g] at e;cases e;exact⟨p,q,d,r⟩
open Classical in
def borrow(F H:Hp)(σ:L2.St)(ρ:RhoS):Hp:=λa=>if Owned σ ρ a then H a else F a
open Classical in
theorem SR.borrow(S:SR K H0 Fc F H σ ρ):Same F (borrow F H σ ρ)/\ER K H0 Fc (borrow F H σ ρ) H σ (view ρ):=by
 have s:Same F (DL.borrow F H σ ρ):=λa o e=>by
  unfold DL.borrow;rw[if_neg (λz=>by rw[(S.owned_none z).1] at e;cases e)];exact e
 refine⟨s,⟨λa o e=>?_,S.same,S.base.trans s,λa o e=>?_,λi d e=>?_⟩⟩
 ·unfold DL.borrow at e;by_cases f:Owned σ ρ a
  ·rw[if_pos f] at e;exact e
  ·rw[if_neg f] at e;exact S.sub a o e
 ·unfold DL.borrow at e;by_cases f:Owned σ ρ a
  ·exact .inr (S.owned_none f).2.1
  ·rw[if_neg f] at e;exact S.new a o e
 ·obtain⟨b,g,h⟩:=ybr e
  subst h;cases b with
  |sh d=>
   obtain⟨v,p,q⟩:=S.env i d g
   exact⟨v,p,q.mono s⟩
  |ow l=>
   obtain⟨a,j,p,_,_,r,q⟩:=S.own i l g
   refine⟨_,p,Den.lst_mk (SqL.of ?_) (q.mono s)⟩
   unfold DL.borrow;rw[if_pos ⟨i,l,g,p⟩];exact r
open Classical in
theorem SR.back(S:SR K H0 Fc F H σ ρ){j B:Hp}{w:W}{v:V}(s:Same (DL.borrow F H σ ρ) j)(R:ER K H0 Fc j B σ (view ρ))(q:RW K H0 j B w v)(f:lfW w=true):
  ∃D,Same F D/\SR K H0 Fc D B σ ρ/\RW K H0 D B w v:=by
 have A:∀{a},Owned σ ρ a->∃m,j a=some (.lst m):=λ{a} z=>by
  obtain⟨_,_,m,r⟩:=S.owned_none z
  exact⟨m,s a _ (by unfold DL.borrow;rw[if_pos z];exact r)⟩
 have C:Same F (λa=>if Owned σ ρ a then none else j a):=λa o e=>by
  have g:¬Owned σ ρ a:=λz=>by rw[(S.owned_none z).1] at e;cases e
  show(if Owned σ ρ a then none else j a)=some o;rw[if_neg g];exact s a o (S.borrow.1 a o e)
 have t:∀a o,(if Owned σ ρ a then none else j a)=some o->j a=some o:=λa o e=>by
  by_cases g:Owned σ ρ a
  ·rw[if_pos g] at e;cases e
  ·rw[if_neg g] at e;exact e
 have u:∀a m,SqT K j a m->SqT K (λa=>if Owned σ ρ a then none else j a) a m:=λa m h=>by
  rcases h with h|h
  ·refine .inl ?_;have g:¬Owned σ ρ a:=λz=>by
    obtain⟨L,e⟩:=A z
    rcases h with h|⟨o,h⟩
    ·rw[e] at h;cases h
    ·rw[e] at h;cases h
   rcases h with h|⟨o,h⟩
   ·exact .inl (by show(if Owned σ ρ a then none else j a)=_;rw[if_neg g];exact h)
   ·exact .inr ⟨o,by show(if Owned σ ρ a then none else j a)=_;rw[if_neg g];exact h⟩
  ·exact .inr h
 refine⟨_,C,⟨λa o e=>R.sub a o (t a o e),R.same,S.base.trans C,λa o e=>R.new a o (t a o e),λi d e=>?_,λi l e=>?_,S.dis,S.len⟩,?_⟩
 ·obtain⟨v,p,q⟩:=S.env i d e
  exact⟨v,p,q.mono C⟩
 ·obtain⟨a,m,p,J,E,G,I⟩:=S.own i l e
  have g:Owned σ ρ a:=⟨i,l,e,p⟩;refine⟨a,m,p,if_pos g,E,?_,I.mono C⟩
  exact R.sub _ _ (s a _ (by unfold DL.borrow;rw[if_pos g];exact G))
 ·cases w with
  |val d=>exact Den.shrink u d f q
  |new l=>
   obtain⟨a,m,e,J,E,G,I⟩:=q
   subst e;refine RW.n ?_ E G (DenL.shrink u l f I);by_cases g:Owned σ ρ a
   ·exact if_pos g
   ·exact(if_neg g).trans J
def SR.freeze(S:SR K H0 Fc F H σ ρ){g n:Hp}(s:Same (DL.borrow F H σ ρ) g)(R:ER K H0 Fc g n σ (view ρ)):Same F g/\SR K H0 Fc g n σ (frz ρ):=by
 refine⟨S.borrow.1.trans s,R.sub,R.same,R.base,R.new,λi d e=>?_,λi l e=>?_,λi j l m a e=>?_,?_⟩
 ·obtain⟨c,h,f⟩:=zma e
  cases f;refine R.env i c.d ?_;unfold view;rw[Zj,h];rfl
 ·obtain⟨c,h,f⟩:=zma e
  cases f
 ·obtain⟨c,h,f⟩:=zma e
  cases f
 ·rw[S.len];unfold frz;rw[Zc]
def after(w:W)(ρ:RhoS):RhoS:=if lfW w=true then ρ else frz ρ
theorem SR.after(S:SR K H0 Fc F H σ ρ){d e:Hp}{w:W}{v:V}(s:Same (DL.borrow F H σ ρ) d)(R:ER K H0 Fc d e σ (view ρ))(q:RW K H0 d e w v):
  ∃g,Same F g/\SR K H0 Fc g e σ (DL.after w ρ)/\RW K H0 g e w v:=by
 unfold DL.after;by_cases f:lfW w=true
 ·rw[if_pos f];exact S.back s R q f
 ·rw[if_neg f];obtain⟨a,b⟩:=S.freeze s R
  exact⟨d,a,b,q⟩
def SR.bind(S:SR K H0 Fc F H σ ρ){i:Nat}{w:W}{v:V}(q:RW K H0 F H w v)(D:i<ρ.length)(E:∀l,w=.new l->∀a,v=.ref a -> ¬Owned σ ρ a):SR K H0 Fc F H (σ.set i (some v)) (ρ.set i (some w.b)):=by
 have u:i<σ.length:=by rw[S.len];exact D
 have z:(σ.set i (some v))[i]? = some (some v):=by rw[Yv u]
 have A:(ρ.set i (some w.b))[i]? = some (some w.b):=by rw[Yv D]
 have o:∀{j},j≠i->(σ.set i (some v))[j]? = σ[j]?:=λh=>Yj (W5 h)
 have p:∀{j},j≠i->(ρ.set i (some w.b))[j]? = ρ[j]?:=λh=>Yj (W5 h)
 refine⟨S.sub,S.same,S.base,S.new,λj d e=>?_,λj l e=>?_,λj k l m a g r s t=>?_,by rw[W9,W9];exact S.len⟩
 ·by_cases f:j=i
  ·subst f;rw[A] at e;refine⟨v,z,?_⟩
   cases w with
   |val C=>cases e;exact q
   |new l=>cases e
  ·rw[p f] at e;rw[o f];exact S.env j d e
 ·by_cases f:j=i
  ·subst f;rw[A] at e;cases w with
   |val C=>cases e
   |new B=>
    cases e;obtain⟨a,G,g,I,J,L,M⟩:=q
    subst g;exact⟨a,G,z,I,J,L,M⟩
  ·rw[p f] at e;rw[o f];exact S.own j l e
 ·by_cases f:j=i
  ·by_cases n:k=i
   ·rw[f,n]
   ·subst f;rw[A] at g;rw[z] at s;rw[p n] at r;rw[o n] at t;cases w with
    |val C=>cases g
    |new B=>cases s;exact absurd ⟨k,m,r,t⟩ (E B rfl a rfl)
  ·by_cases n:k=i
   ·subst n;rw[A] at r;rw[z] at t;rw[p f] at g;rw[o f] at s;cases w with
    |val C=>cases r
    |new B=>cases t;exact absurd ⟨j,l,g,s⟩ (E B rfl a rfl)
   ·rw[p f] at g;rw[o f] at s;rw[p n] at r;rw[o n] at t;exact S.dis j k l m a g r s t
def Owned.not_after(S:SR K H0 Fc F H σ ρ){g o:Hp}{w:W}{v:V}(s:Same (DL.borrow F H σ ρ) g)(q:RW K H0 g o w v):∀l,w=.new l->∀a,v=.ref a -> ¬Owned σ (DL.after w ρ) a:=λl e a ev z=>by
 subst e;obtain⟨b,u,j,p,_⟩:=q
 rw[ev] at j;cases j;obtain⟨i,m,d,t⟩:=z
 unfold DL.after at d;by_cases f:lfW (.new l)=true
 ·rw[if_pos f] at d;have n:Owned σ ρ a:=⟨i,m,d,t⟩;obtain⟨_,_,A,r⟩:=S.owned_none n
  have:=s a _ (by unfold DL.borrow;rw[if_pos n];exact r)
  rw[p] at this;cases this
 ·rw[if_neg f] at d;obtain⟨c,_,h⟩:=zma d
  cases h
def SR.mut(S:SR K H0 Fc F H σ ρ){i:Nat}{l m:List D}{a:Addr}{g:List V}(h:ρ[i]? = some (some (.ow l)))(n:σ[i]? = some (some (.ref a)))(q:DenL K F m g):SR K H0 Fc F (upd H a (.lst g)) σ (ρ.set i (some (.ow m))):=by
 have w:Owned σ ρ a:=⟨i,l,h,n⟩;obtain⟨s,t,W,X⟩:=S.owned_none w
 have A:i<ρ.length:=(Zo.mp h).1;have u:(ρ.set i (some (.ow m)))[i]? = some (some (.ow m)):=by rw[Yv A]
 have r:∀{j},j≠i->(ρ.set i (some (.ow m)))[j]? = ρ[j]?:=λh=>Yj (W5 h)
 have v:∀{j:Nat}{k:List D},(ρ.set i (some (B.ow m)))[j]? = some (some (B.ow k))->∃C:List D,ρ[j]? = some (some (B.ow C)):=λ{j k} e=>by
  by_cases f:j=i
  ·subst f;exact⟨l,h⟩
  ·rw[r f] at e;exact⟨k,e⟩
 refine⟨λb o e=>?_,λb o e=>?_,S.base,S.new,λj d e=>?_,λj k e=>?_,λj k p Y b E G I J=>?_,by rw[W9];exact S.len⟩
 ·rw[Bo (λz=>by subst z;rw[s] at e;cases e)];exact S.sub b o e
 ·rw[Bo (λz=>by subst z;rw[t] at e;cases e)];exact S.same b o e
 ·by_cases f:j=i
  ·subst f;rw[u] at e;cases e
  ·rw[r f] at e;exact S.env j d e
 ·by_cases f:j=i
  ·subst f;rw[u] at e;cases e;exact⟨a,g,n,s,t,Bs,q⟩
  ·rw[r f] at e;obtain⟨b,L,p,M,N,O,P⟩:=S.own j k e
   refine⟨b,L,p,M,N,?_,P⟩
   rw[Bo (λz=>by subst z;exact f (S.dis j i k l b e h p n))];exact O
 ·obtain⟨Q,R⟩:=v E
  obtain⟨T,U⟩:=v G
  exact S.dis j k Q T b R U I J
end
inductive Out where
 |nx (ρ:RhoS)|rt (w:W)
structure RT(H0 Fc F H:Hp):Prop where
 sub:Same F H
 same:Same H0 H
 base:Same Fc F
 new:∀a o,F a=some o->Fc a=some o\/H0 a=none
def tS(K:vE)(g h:Hp)(j:RhoS)(o:Out):TS:=λD l H=>∃F,SR K g h F H l j/\match o with
 |.nx i=>∀e d f,Same F f->SR K g h f d e i->D.nx e d
 |.rt w=>∀v d f,RT g h f d->RW K g f d w v->D.rt v d
def DS(X:Cx)(s:Stmt)(d:RhoS)(o:Out):Prop:=∀e f,PS X s (tS X.K e f d o)
def DSs(X:Cx)(s:List Stmt)(d:RhoS)(o:Out):Prop:=∀e f,PSs X s (tS X.K e f d o)
section
variable{X:Cx}{st:Stmt}{rest:List Stmt}{ρ ρ':RhoS}{o:Out}{w:W}{e:Expr}{pos:Pos}
def DSs.nil:DSs X [] ρ (.nx ρ):=λe f=>PSs.mono zxg λD d H ⟨F,S,k⟩=>k d H F (Same.refl _) S
def DSs.next(g:DS X st ρ (.nx ρ'))(h:DSs X rest ρ' o):DSs X (st::rest) ρ o:=λe f=>PSs.mono (B9 (g e f) (h e f)) λD t H ⟨F,S,k⟩=>
 ⟨F,S,λi u j l m=>⟨j,m,by
  cases o with
  |nx n=>exact λd p q r s=>k d p q (l.trans r) s
  |rt w=>exact k⟩⟩
def DSs.ret(d:DS X st ρ (.rt w)):DSs X (st::rest) ρ (.rt w):=λe f=>PSs.mono (B9 (d e f) zim) λD g H ⟨F,S,k⟩=>⟨F,S,k⟩
def DS.asg{i:Nat}{x:Str}{d:Pos}(h:X.N.Nodup)(j:X.N[i]? = some x)(l:Loc X.env.scope x)(m:X.fn x=true\/X.env.scope.names.lookup x=some .local)(n:swapsWith e (some (.Name x d)) pos.line X.env=pure false)(o:i<ρ.length)
 (p:DE X e (view ρ) w):DS X (.Assign [.Name x d] e pos) ρ (.nx ((after w ρ).set i (some w.b))):=λr s=>PS.mono (zfb h j l (p r s) n m) λD B H ⟨F,S,k⟩=>by
 obtain⟨C,R⟩:=S.borrow
 refine⟨_,R,λv t E f R2 q=>?_⟩
 obtain⟨u,z,g,A⟩:=S.after f R2 q
 refine k _ t u z (g.bind A ?_ (Owned.not_after S f q));rw[<-g.len,S.len];exact o
def DS.ret(d:DE X e (view ρ) w):DS X (.Return (some e) pos) ρ (.rt w):=λf g=>PS.mono (zrz (d f g)) λD j H ⟨F,S,k⟩=>by
 obtain⟨l,R⟩:=S.borrow
 exact⟨_,R,λv h i m R2 q=>k v h i ⟨R2.sub,R2.same,R2.base,R2.new⟩ q⟩
def DS.retOwn{i:Nat}{x:Str}{l:List D}{p:Pos}(e:X.N[i]? = some x)(f:Vis X.env.scope x)(g:(x == ("__debug__" : Str))=false)(d:(x == ("__classdict__" : Str))=false)(h:ρ[i]? = some (some (.ow l))):
  DS X (.Return (some (.Name x p)) pos) ρ (.rt (.new l)):=λr s=>PS.mono (zrz (zat e f g d)) λD t H ⟨F,S,k⟩=>by
 obtain⟨a,u,p,j,m,o,q⟩:=S.own i l h
 exact⟨_,p,k _ H F ⟨S.sub,S.same,S.base,S.new⟩ (RW.n j m o q)⟩
def SR.tested{K:vE}{H0 Fc F H:Hp}{σ:L2.St}(S:SR K H0 Fc F H σ ρ){e f:Hp}(s:Same (DL.borrow F H σ ρ) e)(R:ER K H0 Fc e f σ (view ρ)):∃d,Same F d/\SR K H0 Fc d f σ ρ:=by
 obtain⟨d,a,b,_⟩:=S.back (w:=.val .non) (v:=.non) s R (RW.v Den.non_mk) rfl
 exact⟨d,a,b⟩
def tS.pre{K:vE}{f h F i H j:Hp}{l:L2.St}{g:RhoS}{D:Ends}(s:Same F i)(m:SR K f h i j l g)
 (k:match o with|.nx ρ'=>∀σ' d e,Same F e->SR K f h e d σ' ρ'->D.nx σ' d|.rt w=>∀v d e,RT f h e d->RW K f e d w v->D.rt v d):tS K f h g o D l j:=⟨i,m,by
 cases o with
 |nx ρ'=>exact λσ' d e n p=>k σ' d e (s.trans n) p
 |rt w=>exact k⟩
def DS.ifT{c:Expr}{a b:List Stmt}(f:DT X c (view ρ) true)(g:DSs X a ρ o):DS X (.If c a b pos) ρ o:=λd e=>PS.mono (ykv (f d e) (g d e) zim) λD l H ⟨F,S,k⟩=>by
 obtain⟨m,R⟩:=S.borrow
 refine⟨_,R,λn p h R2=>iteT ?_⟩
 obtain⟨q,i,j⟩:=S.tested h R2
 exact tS.pre (H:=H) i j k
def DS.ifF{c:Expr}{a b:List Stmt}(f:DT X c (view ρ) false)(g:DSs X b ρ o):DS X (.If c a b pos) ρ o:=λd e=>PS.mono (ykv (f d e) zim (g d e)) λD l H ⟨F,S,k⟩=>by
 obtain⟨m,R⟩:=S.borrow
 refine⟨_,R,λn p h R2=>iteF ?_⟩
 obtain⟨q,i,j⟩:=S.tested h R2
 exact tS.pre (H:=H) i j k
def zay(c:RhoS->Option Bool)(b:RhoS->Option Out):Nat->RhoS->Option Out
 |0,_=>none
 |n+1,ρ=>match c ρ with
  |none=>none
  |some false=>some (.nx ρ)
  |some true=>match b ρ with
   |none=>none
   |some (.rt w)=>some (.rt w)
   |some (.nx ρ')=>zay c b n ρ'
def DS.while_{c:Expr}{d:List Stmt}{t:RhoS->Option Bool}{u:RhoS->Option Out}{n:Nat}(U:PassesOwn (model X.prog X.w) X.A X.env X.xe)(V:∀ρ k,t ρ=some k->DT X c (view ρ) k)(W:∀ρ o,u ρ=some o->DSs X d ρ o)
 (Y:zay t u n ρ=some o):DS X (.While c d [] pos) ρ o:=λp r=>by
 have Z:PT X c (λl H Q=>∃ρ k,t ρ=some k/\tDT X.K p r (view ρ) k l H Q):=λpins s l H Q I ⟨ρ,k,h,q⟩=>V ρ k h p r pins s l H Q I q
 have pb:PSs X d (λD l H=>∃ρ o,u ρ=some o/\tS X.K p r ρ o D l H):=λpins s l H D I ⟨ρ,o,h,q⟩=>W ρ o h p r pins s l H D I q
 refine PS.mono (zll U Z pb) λD l H ⟨F,S,k⟩=>?_;refine⟨λm f v=>∃ρ' j,Same F j/\SR X.K p r j v f ρ'/\zay t u m ρ'=some o,⟨n,ρ,F,Same.refl _,S,Y⟩,?_⟩
 rintro m E H1 ⟨g,F1,N,O,i⟩
 cases m with
 |zero=>cases i
 |succ m=>
  unfold zay at i;cases e:t g with
  |none=>rw[e] at i;cases i
  |some P=>
   rw[e] at i;obtain⟨s0,R⟩:=O.borrow
   refine⟨g,P,e,_,R,λH2 F2 s2 R2=>?_⟩
   obtain⟨G,T,J⟩:=O.tested s2 R2
   cases P with
   |false=>
    refine iteF ?_;cases i;exact k E H2 G (N.trans T) J
   |true=>
    refine iteT ?_;cases C:u g with
    |none=>simp only[C] at i;cases i
    |some o2=>
     simp only[C] at i;cases o2 with
     |rt w=>
      cases i;exact⟨λ_ _=>False,λ_ _ z=>z.elim,g,_,C,G,J,k⟩
     |nx B=>
      refine⟨λf v=>∃j,Same F j/\SR X.K p r j v f B,λf v ⟨j,L,M⟩=>⟨m,Wz _,B,j,L,M,i⟩,g,_,C,G,J,?_⟩
      exact λf v j L M=>⟨j,(N.trans T).trans L,M⟩
end
open PySem L2 PyProof.Rows
section
variable{K:vE}{H0 Fc F H:Hp}{σ:L2.St}{ρ:RhoS}
def SR.lay(S:SR K H0 Fc F H σ ρ){a:Addr}(o:HO)(g:H a=none):SR K H0 Fc (upd F a o) (upd H a o) σ ρ/\Same F (upd F a o):=by
 have m:F a=none:=by
  cases q:F a with
  |none=>rfl
  |some u=>rw[S.sub a u q] at g;cases g
 have n:H0 a=none:=S.same.free g;have h:=zaw (o:=o) m;refine⟨⟨λb u e=>?_,S.same.trans (zaw g),S.base.trans h,λb u e=>?_,λi d e=>?_,λi l e=>?_,S.dis,S.len⟩,h⟩
 ·by_cases f:b=a
  ·subst f;rw[Bs] at e |-;exact e
  ·rw[Bo f] at e |-;exact S.sub b u e
 ·by_cases f:b=a
  ·subst f;exact .inr n
  ·rw[Bo f] at e;exact S.new b u e
 ·obtain⟨v,r,s⟩:=S.env i d e
  exact⟨v,r,s.mono h⟩
 ·obtain⟨b,t,p,w,A,j,B⟩:=S.own i l e
  have f:b≠a:=λz=>by subst z;rw[j] at g;cases g
  exact⟨b,t,p,by rw[Bo f];exact w,A,by rw[Bo f];exact j,B.mono h⟩
def SR.frz1(S:SR K H0 Fc F H σ ρ){a:Addr}{g:List V}(j:F a=none)(m:H0 a=none)(n:H a=some (.lst g))(q:¬Owned σ ρ a):SR K H0 Fc (upd F a (.lst g)) H σ ρ/\Same F (upd F a (.lst g)):=by
 have h:=zaw (o:=.lst g) j;refine⟨⟨λb u e=>?_,S.same,S.base.trans h,λb u e=>?_,λi d e=>?_,λi l e=>?_,S.dis,S.len⟩,h⟩
 ·by_cases f:b=a
  ·subst f;rw[Bs] at e;cases e;exact n
  ·rw[Bo f] at e;exact S.sub b u e
 ·by_cases f:b=a
  ·subst f;exact .inr m
  ·rw[Bo f] at e;exact S.new b u e
 ·obtain⟨v,r,s⟩:=S.env i d e
  exact⟨v,r,s.mono h⟩
 ·obtain⟨b,t,p,w,A,B,C⟩:=S.own i l e
  have f:b≠a:=λz=>by subst z;exact q ⟨i,l,e,p⟩
  exact⟨b,t,p,by rw[Bo f];exact w,A,B,C.mono h⟩
def SR.afterF(S:SR K H0 Fc F H σ ρ){g h:Hp}{w:W}{v:V}(s:Same (DL.borrow F H σ ρ) g)(R:ER K H0 Fc g h σ (view ρ))(q:RW K H0 g h w v):
  ∃f,Same F f/\SR K H0 Fc f h σ (DL.after w ρ)/\Den K f w.d v:=by
 have o:=Owned.not_after S s q;obtain⟨f,i,j,m⟩:=S.after s R q
 cases w with
 |val d=>exact⟨f,i,j,m⟩
 |new l=>
  obtain⟨a,A,e,p,r,t,u⟩:=m
  subst e;obtain⟨z,n⟩:=j.frz1 p r t (o l rfl a rfl)
  exact⟨_,i.trans n,z,Den.lst_mk (SqL.of Bs) (u.mono n)⟩
end
def PG.mono{X:Cx}{f:Expr}{t g:TG}(h:PG X f t)(k:∀v d H Q,g v d H Q->t v d H Q):PG X f g:=λe s d H v u Q I r q=>h e s d H v u Q I r (k v d H Q q)
def PGs.mono{X:Cx}{f:List Expr}{t g:TGs}(h:PGs X f t)(k:∀v d H Q,g v d H Q->t v d H Q):PGs X f g:=λe s d H v u Q I r q=>h e s d H v u Q I r (k v d H Q q)
def PI.mono{X:Cx}{f g:Expr}{t i:TI}(h:PI X f g t)(k:∀d H R,i d H R->t d H R):PI X f g i:=λe s d H R I q=>h e s d H R I (k d H R q)
def DG(X:Cx)(i:Expr)(d:D)(j f:RhoS):Prop:=∀g h,PG X i (λv l H Q=>∃F,SR X.K g h F H l j/\Den X.K F d v/\∀e,SR X.K g h F H e f->Q e H)
def DGs(X:Cx)(h:List Expr)(i:List D)(j e:RhoS):Prop:=∀f g,PGs X h (λl m H Q=>∃F,SR X.K f g F H m j/\DenL X.K F i l/\∀d,SR X.K f g F H d e->Q d H)
section
variable{X:Cx}{st:Stmt}{rest:List Stmt}{ρ ρ' ρ2:RhoS}{o:Out}{w:W}{e t:Expr}{ts es:List Expr}{pos:Pos}{d:D}{ds:List D}
def SR.bindS{K:vE}{H0 Fc F H:Hp}{σ:L2.St}(S:SR K H0 Fc F H σ ρ){i:Nat}{v:V}(q:Den K F d v)(f:i<ρ.length):SR K H0 Fc F H (σ.set i (some v)) (ρ.set i (~~~d)):=
 S.bind (w:=.val d) (RW.v q) f λl e=>by cases e
def DG.name{i:Nat}{x:Str}(e:X.N.Nodup)(f:X.N[i]? = some x)(g:Loc X.env.scope x)(h:X.fn x=true\/X.env.scope.names.lookup x=some .local)(j:i<ρ.length):DG X (.Name x pos) d ρ (ρ.set i (~~~d)):=λl m=>
 PG.mono (ziq e f g h) λv n H Q ⟨F,S,q,k⟩=>k _ (S.bindS q j)
def DGs.nil:DGs X [] [] ρ ρ:=λe f=>PGs.mono zpx λg d H Q ⟨F,S,q,k⟩=>⟨q.inv_nil,k d S⟩
def zbn{env:Env}(h:Bm t=true):assignEach (t::ts) env=(false,assign t env)::assignEach ts env:=by
 cases t<;>first|rfl|(cases h;done)
theorem zbg{env:Env}:∀{ts:List Expr},ts.all Bm=true->(assignEach ts env).length=ts.length/\(assignEach ts env).findIdx? (·.1)=none
 |[],_=>⟨rfl,rfl⟩
 |t::ts,h=>by
  rw[Qe,Zk] at h;obtain⟨a,b⟩:=zbg (env:=env) h.2
  rw[zbn h.1];refine⟨by rw[Zv,a,Zv],?_⟩
  rw[List.findIdx?_cons,b];rfl
def DGs.cons(h:DG X t d ρ ρ')(i:DGs X ts ds ρ' ρ2)(j:Bm t=true):DGs X (t::ts) (d::ds) ρ ρ2:=λf g=>
 PGs.mono (zhj (h f g) (i f g) (by rw[zbn j];rfl)) λp s H Q ⟨F,S,q,k⟩=>by
  obtain⟨v,r,e,l,m⟩:=q.inv_cons
  exact⟨v,r,e,F,S,l,λn o=>⟨F,o,m,k⟩⟩
theorem DG.tup{k}(f:X.calm=true)(h:DGs X ts ds ρ ρ')(d:ts.all Bm=true)(g:ds.length=ts.length):DG X (.Tuple ts k pos) (.tup ds) ρ ρ':=λi j=>
 PG.mono (zxp (n:=ts.length) f (h i j) (zbg d).1 (zbg d).2) λv o H Q ⟨F,S,q,k⟩=>by
  obtain⟨a,l,e,m,r⟩:=q.tup
  exact⟨a,l,e,Same.tup S.sub m,by rw[r.length];exact g,F,S,r,k⟩
def DS.asgT(l:DE X e (view ρ) w)(m:DG X t w.d (after w ρ) ρ')(n:swapsWithSole [t] e pos.line X.env=pure false)(o:swappedStores [t] e X.env=pure none)(f:Bm t=true):DS X (.Assign [t] e pos) ρ (.nx ρ'):=λh i=>
 PS.mono (yhd (l h i) (m h i) n o (by rw[zbn f];rfl)) λD B H ⟨F,S,k⟩=>by
  obtain⟨C,R⟩:=S.borrow
  refine⟨_,R,λv p E r R2 q=>?_⟩
  obtain⟨j,s,u,z⟩:=S.afterF r R2 q
  exact⟨j,u,z,λg A=>k g p j s A⟩
def ymj{K:vE}{E G F H:Hp}{g:L2.St}(S:SR K E G F H g ρ){j J:Hp}{u:List V}(s:Same (DL.borrow F H g ρ) j)(R:ER K E G j J g (view ρ))(q:DenL K j ds u)(f:lfL ds=true):
  ∃w,Same F w/\SR K E G w J g ρ/\DenL K w ds u:=by
 induction ds generalizing u with
 |nil=>
  obtain⟨w,a,b⟩:=S.tested s R
  rw[q.inv_nil];exact⟨w,a,b,DenL.nil⟩
 |cons d ds Q=>
  classical
  have key:∀(d:D) (v:V),lf d=true->Den K j d v->Den K (λa=>if Owned g ρ a then none else j a) d v:=λd v f q=>by
   have A:∀a m,SqT K j a m->SqT K (λa=>if Owned g ρ a then none else j a) a m:=λa m h=>by
    rcases h with h|h
    ·refine .inl ?_;have n:¬Owned g ρ a:=λz=>by
      obtain⟨_,_,T,r⟩:=S.owned_none z
      have e:=s a _ (by unfold DL.borrow;rw[if_pos z];exact r);rcases h with h|⟨o,h⟩
      ·rw[e] at h;cases h
      ·rw[e] at h;cases h
     rcases h with h|⟨o,h⟩
     ·exact .inl (by show(if Owned g ρ a then none else j a)=_;rw[if_neg n];exact h)
     ·exact .inr ⟨o,by show(if Owned g ρ a then none else j a)=_;rw[if_neg n];exact h⟩
    ·exact .inr h
   exact Den.shrink A d f q
  have B:∀(l:List D) (m:List V),lfL l=true->DenL K j l m->DenL K (λa=>if Owned g ρ a then none else j a) l m:=λl=>by
   induction l with
   |nil=>intro m _ q;rw[q.inv_nil];exact DenL.nil
   |cons d l I=>
    intro m f q;simp only[lfL,Zk] at f;obtain⟨v,u,e,L,M⟩:=q.inv_cons
    subst e;exact DenL.cons (key d v f.1 L) (I u f.2 M)
  have C:Same F (λa=>if Owned g ρ a then none else j a):=λa o e=>by
   have n:¬Owned g ρ a:=λz=>by rw[(S.owned_none z).1] at e;cases e
   show(if Owned g ρ a then none else j a)=some o;rw[if_neg n];exact s a o (S.borrow.1 a o e)
  have t:∀a o,(if Owned g ρ a then none else j a)=some o->j a=some o:=λa o e=>by
   by_cases n:Owned g ρ a
   ·rw[if_pos n] at e;cases e
   ·rw[if_neg n] at e;exact e
  refine⟨_,C,⟨λa o e=>R.sub a o (t a o e),R.same,S.base.trans C,λa o e=>R.new a o (t a o e),λi d e=>?_,λi l e=>?_,S.dis,S.len⟩,B _ _ f q⟩
  ·obtain⟨v,p,q⟩:=S.env i d e
   exact⟨v,p,q.mono C⟩
  ·obtain⟨a,m,p,U,N,O,P⟩:=S.own i l e
   have n:Owned g ρ a:=⟨i,l,e,p⟩;refine⟨a,m,p,if_pos n,N,?_,P.mono C⟩
   exact R.sub _ _ (s a _ (by unfold DL.borrow;rw[if_pos n];exact O))
def DS.par{i j:Nat}{x y:Str}{a b:Expr}{n o p:Pos}{r s d}{f g:D}(t:X.calm=true)(w:X.N.Nodup)(z:X.N[i]? = some x)(A:X.N[j]? = some y)(h:i≠j)
 (B:X.env.scope.names.lookup x=some .local)(C:X.env.scope.names.lookup y=some .local)(E:DA X [a,b] (view ρ) [f,g])(l:i<ρ.length)(m:j<ρ.length)(G:lf f=true)(I:lf g=true)
 (J:swappedStores [.Tuple [.Name x n,.Name y o] r p] (.Tuple [a,b] s d) X.env=pure (some [x,y])):
  DS X (.Assign [.Tuple [.Name x n,.Name y o] r p] (.Tuple [a,b] s d) pos) ρ (.nx ((ρ.set i (~~~f)).set j (~~~g))):=λK L=>
 PS.mono (ps_par t w z A h B C (E K L) J (by rfl)) λD Y H ⟨F,S,k⟩=>by
  obtain⟨Z,R⟩:=S.borrow
  refine⟨_,R,λvs M F2 O R2 q=>?_⟩
  obtain⟨P,Q,T,U⟩:=ymj S O R2 q (by simp[lfL,G,I])
  obtain⟨v,u,e,V,W⟩:=U.two
  refine⟨v,u,e,k _ M P Q ((T.bindS V l).bindS W (by rw[W9];exact m))⟩
def Yields(K:vE)(F H:Hp)(d:D)(x:V)(e:Hp):Prop:=(e=H/\Den K F d x)\/∃p f ds,H p=none/\e=upd H p (.tup f)/\x=.ref p/\d=.tup ds/\DenL K F ds f
def Walks(K:vE)(F:Hp)(J:It)(e:List D):Prop:=∀i H,Same F H->(∀d,e[i]? = some d->J.go i H/\∀x f,J.yld i H x f->Yields K F H d x f)/\(e.length<=i->J.stop i H)
def DI(X:Cx)(l e:Expr)(ρ:RhoS)(d:List D)(ρ':RhoS):Prop:=∀g h,PI X l e (λi H R=>∃F,SR X.K g h F H i ρ/\∀J j f,Same F f->SR X.K g h f j i ρ'->Walks X.K f J d->R J j)
def forN(f:D->RhoS->Option RhoS)(b:RhoS->Option Out):List D->RhoS->Option Out
 |[],ρ=>some (.nx ρ)
 |d::l,ρ=>match f d ρ with
  |none=>none
  |some e=>match b e with
   |none=>none
   |some (.rt w)=>some (.rt w)
   |some (.nx ρ2)=>forN f b l ρ2
def DS.for_{tg n:Expr}{t:List Stmt}{P:D->RhoS->Option RhoS}{R:RhoS->Option Out}{f:List D}(hp:PassesOwn (model X.prog X.w) X.A X.env X.xe)(hc:X.calm=true)(hi:DI X tg n ρ f ρ')
 (hg:∀d ρ ρ',P d ρ=some ρ'->DG X tg d ρ ρ')(hb:∀ρ o,R ρ=some o->DSs X t ρ o)(hw:forN P R f ρ'=some o)(hs:∀x,foldedSetIterable n X.env x=pure x):DS X (.For tg n t [] pos) ρ o:=λC E=>by
 have pg:PG X tg (λv L H Q=>∃d ρ ρ',P d ρ=some ρ'/\∃F,SR X.K C E F H L ρ/\Den X.K F d v/\∀g,SR X.K C E F H g ρ'->Q g H):=λpins s L H v u Q I r ⟨d,ρ,ρ',h,q⟩=>hg d ρ ρ' h C E pins s L H v u Q I r q
 have pb:PSs X t (λD L H=>∃ρ o,R ρ=some o/\tS X.K C E ρ o D L H):=λpins s L H D I ⟨ρ,o,h,q⟩=>hb ρ o h C E pins s L H D I q
 refine PS.mono (zxi hp hc (hi C E) pg pb hs) λD L H ⟨F,S,k⟩=>⟨F,S,λJ H1 F1 s1 S1 wk=>?_⟩
 refine⟨λi m g j=>m=f.length-i/\i<=f.length/\∃ρ2 O,Same F1 O/\SR X.K C E O j g ρ2/\forN P R (f.drop i) ρ2=some o,⟨_,rfl,Yr _,ρ',F1,Same.refl _,S1,hw⟩,?_⟩
 rintro i m T H2 ⟨rfl,a1,ρ2,O,U,S2,l⟩
 have V:=wk i H2 (U.trans S2.sub);by_cases N:i<f.length
 ·have hd:f[i]? = some f[i]:=Zg N;rw[Yu N] at l;obtain⟨go,yl⟩:=V.1 _ hd
  unfold forN at l;cases e1:P f[i] ρ2 with
  |none=>rw[e1] at l;cases l
  |some B=>
   simp only[e1] at l;cases e2:R B with
   |none=>simp only[e2] at l;cases l
   |some o2=>
    simp only[e2] at l;have M:∀x j,J.yld i H2 x j->∃G,Same O G/\SR X.K C E G j T ρ2/\Den X.K G f[i] x:=λx j y=>by
     rcases yl x j y with⟨e,q⟩|⟨p,xs,ds,hp,e,ex,ed,q⟩
     ·subst e;exact⟨O,Same.refl _,S2,q.mono U⟩
     ·subst e ex;obtain⟨W,Y⟩:=S2.lay (.tup xs) hp
      refine⟨_,Y,W,?_⟩
      rw[ed];exact Den.tup_mk (SqT.of Bs) ((q.mono U).mono Y)
    cases o2 with
    |rt w=>
     cases l;refine .inr ⟨go,λ_ _=>False,λ_ _ z=>z.elim,λx j y=>?_⟩;obtain⟨G,Y,W,q3⟩:=M x j y
     exact⟨_,ρ2,B,e1,G,W,q3,λg Z=>⟨B,_,e2,G,Z,k⟩⟩
    |nx a0=>
     refine .inr ⟨go,λg j=>∃F',Same F1 F'/\SR X.K C E F' j g a0,λg j ⟨F',s',Z⟩=>⟨f.length-(i+1),by omega,rfl,N,a0,F',s',Z,l⟩,λx j y=>?_⟩;obtain⟨G,Y,W,q3⟩:=M x j y
     exact⟨_,ρ2,B,e1,G,W,q3,λg Z=>⟨B,_,e2,G,Z,λa2 H5 F5 s5 S5=>⟨F5,(U.trans Y).trans s5,S5⟩⟩⟩
 ·have e:i=f.length:=by omega
  subst e;rw[Be] at l;cases l;refine .inl ⟨V.2 (Zl _),?_⟩;exact k T H2 O (s1.trans U) S2
def DI.list{p:Expr}{l:List D}(s:DE X e (view ρ) w)(t:w.d=.lst l):DI X p e ρ l (after w ρ):=λu z=>PI.mono (zpw (s u z)) λO H R ⟨F,S,k⟩=>by
 obtain⟨P,A⟩:=S.borrow
 refine⟨_,A,λv B Q C R2 q=>?_⟩
 obtain⟨E,G,m,n⟩:=S.afterF C R2 q
 rw[t] at n;obtain⟨a,f,I,g,r⟩:=n.lst
 refine⟨a,I,⟨f,m.sub.seq g⟩,k _ B E G m λi T h=>⟨λd J=>?_,λj=>⟨f,h.seq g,by rw[r.length];exact j⟩⟩⟩
 obtain⟨y,o,K⟩:=r.get J
 refine⟨⟨f,y,h.seq g,o⟩,λx L ⟨M,N⟩=>?_⟩
 have:=N f (h.seq g)
 rw[o] at this;cases this;exact .inl ⟨M,K⟩
theorem DI.tup{p:Expr}{l:List D}(s:DE X e (view ρ) w)(t:w.d=.tup l):DI X p e ρ l (after w ρ):=λu z=>PI.mono (zxn (s u z)) λO H R ⟨F,S,k⟩=>by
 obtain⟨P,A⟩:=S.borrow
 refine⟨_,A,λv B Q C R2 q=>?_⟩
 obtain⟨E,G,m,n⟩:=S.afterF C R2 q
 rw[t] at n;obtain⟨a,f,I,g,r⟩:=n.tup
 refine⟨a,I,⟨f,Same.tup m.sub g⟩,k _ B E G m λi T h=>⟨λd J=>?_,λj=>⟨f,Same.tup h g,by rw[r.length];exact j⟩⟩⟩
 obtain⟨y,o,K⟩:=r.get J
 refine⟨⟨f,y,Same.tup h g,o⟩,λx L ⟨M,N⟩=>?_⟩
 have:=N f (Same.tup h g)
 rw[o] at this;cases this;exact .inl ⟨M,K⟩
def zal(d:Int)(n:Nat):List D:=(List.range n).map λ(i:Nat)=>D.int (d+(i:Int))
def zgi{K:vE}{F:Hp}{h:Int}{n:Nat}:Walks K F (Itr h n) (zal h n):=λi H m=>by
 unfold zal;refine⟨λd e=>?_,λf=>?_⟩
 ·rw[Zj] at e;by_cases g:i<n
  ·rw[K8 g] at e;cases e;exact⟨g,λx o ⟨j,l⟩=>.inl ⟨j,by rw[l];exact Den.int_mk⟩⟩
  ·rw[Yl (by rw[Z6];omega)] at e;cases e
 ·rw[Zc,Z6] at f;exact f
def DI.range1{d a:Expr}{p:Pos}{n:Int}(f:Gl X "range")(g:X.mg "range" = none)(h:DA X [a] (view ρ) [.int n])(i:Bm a=true)(j : -(2^62)<=n)(l:n<2^62):DI X d (.Call (.Name "range" p) [a] [] pos) ρ (zal 0 n.toNat) ρ:=λm o=>
 PI.mono (zio f g (h m o) (Bu i)) λA H R ⟨F,S,k⟩=>by
  obtain⟨B,r⟩:=S.borrow
  refine⟨_,r,λC s D t R2 q=>?_⟩
  obtain⟨u,w,z⟩:=S.tested t R2
  obtain⟨v,e,q⟩:=q.one
  rw[q.int] at e;exact⟨n,e,j,l,k _ s u w z zgi⟩
end
open PySem L2 PyProof.Rows
def Inv.turned2{X:Cx}{pins:List (Addr×Obj)}{σ:L2.St}{H:Hp}{s:Shared}{t:Heap}{e j p:Addr}{o:HO}{L:Nat}(I:Inv X pins σ H s)(M:FpOk X pins H e)(A:FpOk X pins H j)
 (k:∀b d,b≠e->b≠j->s.heap.get? b=some d->t.get? b=some d)(D:s.heap.objs.size<=p)(B:ObjOk X.prog X.w (upd H p o) t p o):Inv X pins σ (upd H p o) {s with heap:=t,toks:=L}:=by
 obtain⟨E,F,W,N,O,P⟩:=M
 obtain⟨G,J,Y,Q,R,S⟩:=A
 have f:∀{b:Addr},b∉[e,j]->b≠e/\b≠j:=λh=>by simpa using h
 have C:∀{b:Addr}{d:Obj},s.heap.get? b=some d->b≠p:=λh z=>by
  have:=Zn h
  subst z;exact absurd (Ze this D) (Wt _)
 have i:∀{b:Addr}{u:HO},H b=some u->b≠p:=λh z=>by
  subst z;rw[I.hok.fresh D] at h;cases h
 refine I.step (g':=s.gens) (d':=s.drawn) (ch:=[e,j]) (λb l=>?_) (λb d _ _ g q _=>k b d (f g).1 (f g).2 q) (λb d _ _ g q _=>⟨d.slots,k b d (f g).1 (f g).2 q⟩)
  (λb d g q n=>by rw[Bo (C q)];exact n) (λb d g q=>⟨d,k b d (f g).1 (f g).2 q⟩) (λb K q=>by rw[Bo (i q)];exact q) (λb d K q=>by rw[Bo (i q)];exact q)
  (λb Z q=>⟨#[],by rw[Bo (i q),q];simp⟩) (λm T=>?_) (λb u q=>?_) I.bare
 ·rcases Zh.mp l with z|z
  ·subst z;exact⟨N,F,O,P⟩
  ·have z:=Z0.mp z;subst z;exact⟨Q,J,R,S⟩
 ·obtain⟨d,U,V,q,r⟩:=T
  exact⟨d,U,V,k _ d (W5 F) (W5 J) q,r⟩
 ·by_cases l:b=p
  ·subst l;rw[Bs] at q;cases q;exact B
  ·rw[Bo l] at q;refine(I.hok b u q).stay (λc v g z=>k c v ?_ ?_ z) (λc z=>by rw[Bo (i z)];exact z) λc K z=>by rw[Bo (i z)];exact z
   ·rintro rfl
    rcases g with z|z
    ·subst z;rw[E] at q;cases q
    ·rw[E] at z;cases z
   ·rintro rfl
    rcases g with z|z
    ·subst z;rw[G] at q;cases q
    ·rw[G] at z;cases z
def Ite(K:vE)(a:Addr):It:=
 ⟨λi H=>∃d x,SqL K H a d/\d[i]? = some x,λi H x e=>∃p y,H p=none/\x=.ref p/\e=upd H p (.tup [.int (i:Int),y])/\∀d,SqL K H a d->d[i]? = some y,λi H=>∃d,SqL K H a d/\d.length<=i⟩
def zvt{P:Program}{w:World}{K:vE}{B:List Expr}{x1}{tp:Pos}(a e g:Addr)(C:e≠g):Turn P w K (.Tuple B x1 tp) (Ite K a) [e,g] e (λi h=>(∃f,IsEnum h e g (i:Int) f)/\h.IsListIter g a i) where
 mem:=by simp
 obj:=λi h j b t=>by
  obtain⟨⟨f,J⟩,m⟩:=j
  rcases Zh.mp t with z|z
  ·subst z;exact⟨_,J,λv z=>by cases z⟩
  ·have z:=Z0.mp z;subst z;obtain⟨o,e,c,d⟩:=m
   exact⟨o,e,λv z=>by rw[d] at z;cases z⟩
 keep:=λi h h' j k=>by
  obtain⟨⟨f,J⟩,m⟩:=j
  exact⟨⟨f,k e vC _ J⟩,m.at λo q=>k g vC o q⟩
 item:=by
  intro X N O Q hc i n s σ H E I D j R;subst N O Q;obtain⟨⟨f,A⟩,l⟩:=j
  obtain⟨xs,x,L,S⟩:=R
  obtain⟨T,U,p,hz⟩:=I.list L
  obtain⟨u,hu,ru⟩:=U.get S
  refine wpAny_pyNext_enum_item A l p.isList (x:=u) (by simpa using hu) C λJ V F Y a4 Z=>⟨_,rfl,?_⟩
  refine wpAny_letOwnedTupleGo_enum V λm a0 r=>?_;have G:e<s.heap.objs.size:=Zn A;have a1:g<s.heap.objs.size:=by obtain⟨o,q,_⟩:=id l;exact Zn q
  have a2:m.get? s.heap.objs.size=some {cls:=.type "tuple",data:=.seq #[.int i s.toks,u]}:=(r.2 _ (Yb G)).trans Y;have a3:∀b M,b≠e->b≠g->s.heap.get? b=some M->m.get? b=some M:=λb M n1 n2 q=>(r.2 b n1).trans (Z b M n1 n2 q)
  have I2:Inv X n σ (upd H s.heap.objs.size (.tup [.int (i:Int),x])) {s with heap:=m,toks:=s.toks+1}:=by
   refine Inv.turned2 I (D e vC) (D g vC) a3 (Zl _) ?_;exact⟨by show 2<=sizeLine;decide,[.int i s.toks,u],.cons ⟨_,rfl⟩ #v[ru],⟨_,a2,rfl,_,rfl⟩⟩
  refine⟨.ref s.heap.objs.size,_,I2,rfl,⟨_,x,I.hok.fresh (Zl _),rfl,rfl,λys hy=>by rw[I.list_inj hy L];exact S⟩,⟨⟨u,?_⟩,?_⟩,λb t=>?_⟩
  ·have:((i+1:Nat):Int)=(i:Int)+1:=by push_cast;rfl
   show IsEnum m e g ((i+1:Nat):Int) u;rw[this];exact a0
  ·exact F.at λo q=>(r.2 g (W5 C)).trans q
  ·rw[Bo]
   ·exact(D b t).1
   ·rcases Zh.mp t with z|z
    ·subst z;exact Yh G
    ·have z:=Z0.mp z;subst z;exact Yh a1
 done:=by
  intro X N O Q hc i n s σ H E I D j R;subst N O Q;obtain⟨⟨f,A⟩,l⟩:=j
  obtain⟨xs,L,S⟩:=R
  obtain⟨T,U,p,hz⟩:=I.list L
  obtain⟨f0,f1,f2,f3,f4,f5⟩:=D g vC
  have hl:=U.length;exact wpAny_pyNext_enum_end (I.ok.hd hc) A l p.isList (by simp;omega) λh' eb=>⟨rfl,I.turned (t':=s.toks) (λb o t e=>eb b o t e) f0 f1 f3 f4 f5⟩
 self:=λ_ _ _ _ _ j h=>by
  obtain⟨⟨f,A⟩,_⟩:=j
  exact wpAny_pyIter_enum A h
def zjw:bootBuiltins "enumerate" = some (.type "enumerate"):=by decide +kernel
section
variable{X:Cx}{elts:List Expr}{x1:Nat}{tp:Pos}
def iEnum(K:vE)(e:TA):TI:=λf H R=>e f H λg d=>∃a,g=[.ref a]/\(∃h,SqL K d a h)/\R (Ite K a) d
def zxo{a:Expr}{m:TA}{p pos:Pos}(v:Gl X "enumerate")(w:X.mg "enumerate" = none)(A:PA X [a] m)(B:starEach [a] X.env=[(false,eval a X.env)]):PI X (.Tuple elts x1 tp) (.Call (.Name "enumerate" p) [a] [] pos) (iEnum X.K m):=by
 intro d s n H R I h;refine Call_ (zgn I v w zjw (Y4 (thn (A pos d s n H _ I h) λO f ⟨P,o,i,C,D⟩=>?_) B rfl));obtain⟨l,e,⟨Q,E⟩,q⟩:=D
 subst e;obtain⟨u,e,r⟩:=zkt C
 subst e;cases r;obtain⟨F,S,p,T⟩:=i.list E
 refine call_enumerate_list p.isList λG t j J L=>?_;have M:Inv X d n o {f with heap:=G}:=i.kept (t':=f.toks) L;refine wpAny_pyIter_enum t ⟨_,[f.heap.objs.size+1,f.heap.objs.size],_,_,o,rfl,M,zvt l _ _ (U8 _),⟨⟨_,t⟩,j⟩,λb N=>?_,q⟩;have g:f.heap.objs.size<=b:=by
  rcases Zh.mp N with z|z
  ·rw[z];exact Jo _
  ·rw[Z0.mp z];exact Zl _
 exact i.fpOk g (i.hok.fresh g)
end
open PySem L2 PyProof.Rows
section
variable{prog:Program}{w:World}{A:Around}{E:Value->Shared->Prop}{h:Heap}{g:Array GenState}{d:Drawn}{t:Nat}{os:OsState}{a C:Addr}{o:Obj}{vs:Array Value}{K:vE}
end
open PySem L2 PyProof.Rows
section
variable{P:Program}{w:World}{H H':Hp}{h h':Heap}{a:Addr}{o:HO}
end
section
variable{fs:List Addr}{H H':Hp}{h0 h h1 B h':Heap}
end
def CX1(P:Program)(w:World):CXT:=λd H s E e f=>∃(i C:Addr) (j:Value) (B:Heap) (g:Hp),e=.ref i/\f.os=s.os/\AllBare f.gens/\Un (frs d) [] H g s.heap f.heap/\HOk P w g f.heap /\
 Heap.FlyingW B d i (.ref C) j f.heap/\(∀b o,s.heap.get? b=some o->b∉frs d->∃h,B.get? b=some h)/\(∀b u,g b=some u->∃h,B.get? b=some h)/\E (.ref C) none g
section
variable{X:Cx}{pins:List (Addr×Obj)}{σ:L2.St}{H:Hp}{s:Shared}{E:XK}{E':Value->Shared->Prop}
end
open PySem L2 PyProof.Rows
section
variable{X:Cx}{pins:List (Addr×Obj)}{σ:L2.St}{H:Hp}{s:Shared}{E:XK}{E':Value->Shared->Prop}
end
open PySem L2 PyProof.Rows
abbrev zvj:List Str:=["FitError","NoNumber","NoShape","NoSize"]
def subX(x y:Str):Bool:=decide (x=y) || decide (y=("FitError" : Str)) || decide (y=("ValueError" : Str))
def spR(K:vE)(n:Nat)(g:∅):Sp:=λh H Q E=>∃F d x C,Same F H/\DenL K F d h/\d.length=n/\g d=some (.val (.exc x))/\PySem.W.nsIn K mainGlobals x=some (some (.ref C)) /\
 ∀e f,Same H e->Same F f->Same f e->(∀a o,f a=some o->F a=some o\/H a=none)->E (.ref C) none e
def ypg(X:Cx)(x:Str)(n:Nat)(e:∅):Prop:=∃(k:Nat) (f:Addr) (d:FuncData) (ps:List Str),
 FnOk X.prog X.w X.K X.mg X.base (CX1 X.prog X.w) k f d ps (spR X.K n e)/\Room k X.A/\X.mg x=some (.ref f)/\PySem.W.keepIn X.K (.ref f)=true/\Binds X.K d ps []
section
variable{X:Cx}{pins:List (Addr×Obj)}{σ:L2.St}{H:Hp}{s:Shared}{E':Value->Shared->Prop}{e:Expr}{es:List Expr}{pos:Pos}
end
section
variable{X:Cx}{e:Expr}{es:List Expr}{ρ:RhoS}{pos:Pos}{ds:List D}
end
open PySem L2 PyProof.Rows
def isX(d:List Str):D->Option Bool
 |.exc x=>if x∈zvj then some (d.any (subX x)) else none
 |.non=>some false
 |_=>none
section
variable{X:Cx}{a e:Expr}{ρ:Rho}{pos:Pos}
end
open PySem L2 PyProof.Rows
section
variable{X:Cx}{pins:List (Addr×Obj)}{σ:L2.St}{H:Hp}{s:Shared}
end
open PySem L2 PyProof.Rows
mutual
def toP:D->PyData
 |.non=>.none
 |.bl b=>.bool b
 |.int i=>.int i
 |.tup l=>.tuple (toPs l)
 |.lst l=>.list (toPs l)
 |.exc _=>.none
 |.obj _ _=>.none
def toPs:List D->List PyData
 |[]=>[]
 |d::l=>toP d::toPs l
end
mutual
def dOk:Nat->D->Bool
 |_,.non=>true
 |_,.bl _=>true
 |_,.int _=>true
 |0,.tup _=>false
 |n+1,.tup l=>dOkL n l
 |0,.lst _=>false
 |n+1,.lst l=>dOkL n l
 |_,.exc _=>false
 |_,.obj _ _=>false
def dOkL:Nat->List D->Bool
 |_,[]=>true
 |n,d::l=>dOk n d && dOkL n l
end
mutual
def eqD:D->D->Bool
 |.non,.non=>true
 |.bl a,.bl b=>a == b
 |.bl a,.int j=>(if a then 1 else 0) == j
 |.int i,.bl b=>i == (if b then 1 else 0)
 |.int i,.int j=>i == j
 |.tup l,.tup m=>eqL l m
 |.lst l,.lst m=>eqL l m
 |_,_=>false
def eqL:List D->List D->Bool
 |[],[]=>true
 |d::l,e::m=>eqD d e && eqL l m
 |_,_=>false
end
mutual
theorem zqp:∀(n m:Nat) (d e:D),dOk n d=true->dOk m e=true->PyData.eqv (toP d) (toP e)=eqD d e
 |n,m,.tup l,.tup k,f,g=>by
  cases n with
  |zero=>simp only[dOk] at f;cases f
  |succ n=>
   cases m with
   |zero=>simp only[dOk] at g;cases g
   |succ m=>
    simp only[dOk] at f g;simp only[toP,PyData.eqv,eqD];exact eqv_L n m l k f g
 |n,m,.lst l,.lst k,f,g=>by
  cases n with
  |zero=>simp only[dOk] at f;cases f
  |succ n=>
   cases m with
   |zero=>simp only[dOk] at g;cases g
   |succ m=>
    simp only[dOk] at f g;simp only[toP,PyData.eqv,eqD];exact eqv_L n m l k f g
 |n,m,.exc _,_,f,_=>by simp only[dOk] at f;cases f
 |n,m,d,.exc _,_,g=>by simp only[dOk] at g;cases g
 |n,m,.obj _ _,_,f,_=>by simp only[dOk] at f;cases f
 |n,m,d,.obj _ _,_,g=>by simp only[dOk] at g;cases g
 |n,m,.non,.non,_,_=>by simp only[toP,PyData.eqv,eqD]
 |n,m,.non,.bl _,_,_=>by simp only[toP,PyData.eqv,eqD]
 |n,m,.non,.int _,_,_=>by simp only[toP,PyData.eqv,eqD]
 |n,m,.non,.tup _,_,_=>by simp only[toP,PyData.eqv,eqD]
 |n,m,.non,.lst _,_,_=>by simp only[toP,PyData.eqv,eqD]
 |n,m,.bl _,.non,_,_=>by simp only[toP,PyData.eqv,eqD]
 |n,m,.bl _,.bl _,_,_=>by simp only[toP,PyData.eqv,eqD]
 |n,m,.bl _,.int _,_,_=>by simp only[toP,PyData.eqv,eqD]
 |n,m,.bl _,.tup _,_,_=>by simp only[toP,PyData.eqv,eqD]
 |n,m,.bl _,.lst _,_,_=>by simp only[toP,PyData.eqv,eqD]
 |n,m,.int _,.non,_,_=>by simp only[toP,PyData.eqv,eqD]
 |n,m,.int _,.bl _,_,_=>by simp only[toP,PyData.eqv,eqD]
 |n,m,.int _,.int _,_,_=>by simp only[toP,PyData.eqv,eqD]
 |n,m,.int _,.tup _,_,_=>by simp only[toP,PyData.eqv,eqD]
 |n,m,.int _,.lst _,_,_=>by simp only[toP,PyData.eqv,eqD]
 |n,m,.tup _,.non,_,_=>by simp only[toP,PyData.eqv,eqD]
 |n,m,.tup _,.bl _,_,_=>by simp only[toP,PyData.eqv,eqD]
 |n,m,.tup _,.int _,_,_=>by simp only[toP,PyData.eqv,eqD]
 |n,m,.tup _,.lst _,_,_=>by simp only[toP,PyData.eqv,eqD]
 |n,m,.lst _,.non,_,_=>by simp only[toP,PyData.eqv,eqD]
 |n,m,.lst _,.bl _,_,_=>by simp only[toP,PyData.eqv,eqD]
 |n,m,.lst _,.int _,_,_=>by simp only[toP,PyData.eqv,eqD]
 |n,m,.lst _,.tup _,_,_=>by simp only[toP,PyData.eqv,eqD]
theorem eqv_L:∀(n m:Nat) (l k:List D),dOkL n l=true->dOkL m k=true->PyData.eqvAll (toPs l) (toPs k)=eqL l k
 |n,m,[],[],_,_=>by simp only[toPs,PyData.eqvAll,eqL]
 |n,m,d::l,e::k,f,g=>by
  simp only[dOkL,Zk] at f g;simp only[toPs,PyData.eqvAll,eqL];rw[zqp n m d e f.1 g.1,eqv_L n m l k f.2 g.2]
 |n,m,[],_::_,_,_=>by simp only[toPs,PyData.eqvAll,eqL]
 |n,m,_::_,[],_,_=>by simp only[toPs,PyData.eqvAll,eqL]
end
mutual
theorem zus:∀(n:Nat) (d:D),dOk n d=true->(toP d).canLay0=true/\(toP d).depth<=n
 |_,.non,_=>by simp[toP,PyData.canLay0,PyData.depth]
 |_,.bl _,_=>by simp[toP,PyData.canLay0,PyData.depth]
 |_,.int _,_=>by simp[toP,PyData.canLay0,PyData.depth]
 |0,.tup _,h=>by simp only[dOk] at h;cases h
 |n+1,.tup l,h=>by
  simp only[dOk] at h;obtain⟨a,b⟩:=lay_L n l h
  simp only[toP,PyData.canLay0,PyData.depth];exact⟨a,by omega⟩
 |0,.lst _,h=>by simp only[dOk] at h;cases h
 |n+1,.lst l,h=>by
  simp only[dOk] at h;obtain⟨a,b⟩:=lay_L n l h
  simp only[toP,PyData.canLay0,PyData.depth];exact⟨a,by omega⟩
 |_,.exc _,h=>by simp only[dOk] at h;cases h
 |_,.obj _ _,h=>by simp only[dOk] at h;cases h
theorem lay_L:∀(n:Nat) (l:List D),dOkL n l=true->PyData.canLayAll0 (toPs l)=true/\PyData.depthAll (toPs l)<=n
 |_,[],_=>by simp[toPs,PyData.canLayAll0,PyData.depthAll]
 |n,d::l,h=>by
  simp only[dOkL,Zk] at h;obtain⟨a,b⟩:=zus n d h.1
  obtain⟨c,e⟩:=lay_L n l h.2
  simp only[toPs,PyData.canLayAll0,PyData.depthAll,Zk];exact⟨⟨a,c⟩,by omega⟩
end
section
variable{X:Cx}{pins:List (Addr×Obj)}{σ:L2.St}{H F:Hp}{s:Shared}
mutual
theorem zbu(I:Inv X pins σ H s)(g:Same F H):∀(n:Nat) (d:D){v:V}{u:Value},dOk n d=true->Den X.K F d v->RelV v u->∃j,Reads s.heap u (toP d) j
 |_,.non,v,u,_,h,r=>by rw[h.non] at r;cases(show u=Value.none from r);exact⟨_,.none⟩
 |_,.bl b,v,u,_,h,r=>by rw[h.bl] at r;cases(show u=Value.bool b from r);exact⟨_,.bool b⟩
 |_,.int i,v,u,_,h,r=>by
  rw[h.int] at r;obtain⟨t,e⟩:=(show ∃t,u=Value.int i t from r)
  subst e;exact⟨_,.int i t⟩
 |0,.tup _,_,_,h,_,_=>by simp only[dOk] at h;cases h
 |n+1,.tup l,v,u,f,h,r=>by
  simp only[dOk] at f;obtain⟨a,E,e,m,q⟩:=h.tup
  subst e;cases(show u=Value.ref a from r)
  obtain⟨p,w,⟨o,z,A,k,B⟩,_⟩:=I.tuple (Same.tup g m)
  obtain⟨j,C⟩:=reads_L I g n l f q w
  exact⟨_,.tuple z A B (by simpa using C)⟩
 |0,.lst _,_,_,h,_,_=>by simp only[dOk] at h;cases h
 |n+1,.lst l,v,u,f,h,r=>by
  simp only[dOk] at f;obtain⟨a,E,e,m,q⟩:=h.lst
  subst e;cases(show u=Value.ref a from r)
  obtain⟨p,w,⟨o,k,z,A,B⟩,_⟩:=I.list (g.seq m)
  obtain⟨j,C⟩:=reads_L I g n l f q w
  exact⟨_,.list z A B.2 (by simpa using C)⟩
 |_,.exc _,_,_,h,_,_=>by simp only[dOk] at h;cases h
 |_,.obj _ _,_,_,h,_,_=>by simp only[dOk] at h;cases h
theorem reads_L(I:Inv X pins σ H s)(j:Same F H):∀(n:Nat) (l:List D){f:List V}{g:List Value},dOkL n l=true->DenL X.K F l f->Vals f g->∃m,ReadsAll s.heap g (toPs l) m
 |_,[],f,g,_,h,r=>by
  rw[h.inv_nil] at r;cases r;exact⟨_,.nil⟩
 |n,d::l,f,g,i,h,r=>by
  simp only[dOkL,Zk] at i;obtain⟨v,z,e,o,p⟩:=h.inv_cons
  subst e;cases r with
  |cons q t=>
   obtain⟨m,u⟩:=zbu I j n d i.1 o q
   obtain⟨A,w⟩:=reads_L I j n l i.2 p t
   exact⟨_,.cons u w⟩
end
end
section
variable{X:Cx}
def zhi{d:D}(h:dOk 50 d=true):SeqAt.shaped (toP d)=true:=by
 obtain⟨a,b⟩:=zus 50 d h
 unfold SeqAt.shaped;rw[a,Bool.true_and];exact decide_eq_true vB
def ydg(K:vE)(x y:D)(k:Bool):R2:=λv u H Q=>∃F,Same F H/\Den K F x v/\Den K F y u/\Q (.bl k) H
def yae{x y:D}(g:X.A.units+64<cLine)(d:dOk 50 x=true)(e:dOk 50 y=true):zcx X .Eq x y (eqD x y):=by
 refine⟨ydg X.K x y (eqD x y),?_,λH F v u Q s h i q=>⟨F,s,h,i,q⟩⟩
 intro pins s r H v u t w Q I j l ⟨F,f,m,n,q⟩;obtain⟨z,o⟩:=zbu I f 50 x d m j
 obtain⟨B,p⟩:=zbu I f 50 y e n l
 refine eq_dataH o p (zhi d) (zhi e) g ?_;rw[zqp 50 50 x y d e];exact⟨.bl _,H,I,rfl,q⟩
def yad{x y:D}(g:X.A.units+64<cLine)(d:dOk 50 x=true)(e:dOk 50 y=true):zcx X .NotEq x y (!eqD x y):=by
 refine⟨ydg X.K x y (!eqD x y),?_,λH F v u Q s h i q=>⟨F,s,h,i,q⟩⟩
 intro pins s r H v u t w Q I j l ⟨F,f,m,n,q⟩;obtain⟨z,o⟩:=zbu I f 50 x d m j
 obtain⟨B,p⟩:=zbu I f 50 y e n l
 refine ne_dataH o p (zhi d) (zhi e) g ?_;rw[zqp 50 50 x y d e];exact⟨.bl _,H,I,rfl,q⟩
theorem ypa{x:D}(e:dOk 50 x=true):∀(l:List D),dOkL 49 l=true->((toPs l).any λy=>PyData.eqv y (toP x))=l.any λy=>eqD y x
 |[],_=>rfl
 |d::l,h=>by
  simp only[dOkL,Zk] at h;simp only[toPs,List.any_cons];rw[zqp 49 50 d x h.1 e,ypa e l h.2]
def yob{x:D}{l:List D}(t:X.A.units+64<cLine)(d:dOk 50 x=true)(e:dOkL 49 l=true):zcx X .In x (.lst l) (l.any λy=>eqD y x):=by
 refine⟨ydg X.K x (.lst l) _,?_,λH F v u Q s h i q=>⟨F,s,h,i,q⟩⟩
 intro pins s w H v u z B Q I j m ⟨F,f,n,o,q⟩;obtain⟨C,p⟩:=zbu I f 50 x d n j
 obtain⟨E,g⟩:=zbu I f 50 (.lst l) (by simp only[dOk];exact e) o m
 simp only[toP] at g;obtain⟨a,b⟩:=zus 50 x d
 obtain⟨r,G⟩:=lay_L 49 l e
 refine SeqAt.in_list_reads g p r a (by have:=Nat.min_le_right (PyData.depthAll (toPs l)) (toP x).depth;omega) ?_;rw[ypa d l e];exact⟨.bl _,H,I,rfl,q⟩
def yfo{x:D}{l:List D}(t:X.A.units+64<cLine)(d:dOk 50 x=true)(e:dOkL 49 l=true):zcx X .NotIn x (.lst l) (!(l.any λy=>eqD y x)):=by
 refine⟨ydg X.K x (.lst l) _,?_,λH F v u Q s h i q=>⟨F,s,h,i,q⟩⟩
 intro pins s w H v u z B Q I j m ⟨F,f,n,o,q⟩;obtain⟨C,p⟩:=zbu I f 50 x d n j
 obtain⟨E,g⟩:=zbu I f 50 (.lst l) (by simp only[dOk];exact e) o m
 simp only[toP] at g;obtain⟨a,b⟩:=zus 50 x d
 obtain⟨r,G⟩:=lay_L 49 l e
 refine SeqAt.notIn_list_reads g p r a (by have:=Nat.min_le_right (PyData.depthAll (toPs l)) (toP x).depth;omega) ?_;rw[ypa d l e];exact⟨.bl _,H,I,rfl,q⟩
end
open PySem L2 PyProof.Rows
def cloF(d:List (Str×Addr)):List (Str×NameKind)->List (Str×Addr)->List (Str×Addr)
 |[],e=>e
 |(n,k)::r,e=>cloF d r (if (k == NameKind.free)=true then(n,(d.lookup n).getD 0)::e else e)
def yih{scope:Scope}{env:Env}(h:∀y∈scope.names,y.2=.free->∃c,env.cells.lookup y.1=some c):closureFor scope env=pure (cloF env.cells scope.names []):=by
 have key:∀(l:List (Str×NameKind)) (d:List (Str×Addr)),(∀y∈l,y.2=.free->∃c,env.cells.lookup y.1=some c) ->
   (forIn l d (λx d=>if (x.2 == NameKind.free)=true then do let a <-cellOf env x.1;pure (ForInStep.yield ((x.1,a)::d)) else pure (ForInStep.yield d)):Sem (List (Str×Addr)))=pure (cloF env.cells l d):=by
  intro l;induction l with
  |nil=>intro d _;rfl
  |cons y l j=>
   intro d h;rw[K9];obtain⟨n,k⟩:=y
   have g:=λd=>j d λz m=>h z (Yw _ m)
   by_cases e:(k == NameKind.free)=true
   ·obtain⟨c,i⟩:=h (n,k) Wx (by cases k<;>first|rfl|cases e)
    have f:cellOf env n=pure c:=by unfold cellOf;rw[i]
    simp only[e,if_true,f,pure_bind];rw[g];simp only[cloF,e,if_true,i,Q9]
   ·simp only[e,if_false,pure_bind,Wb];rw[g];simp only[cloF,e,if_false,Wb]
 unfold closureFor;have:=key scope.names [] h
 simp only[bind_pure];first|exact this|(refine Eq.trans ?_ this;rfl)|(simp at this |-;exact this)
theorem zhr{d:List (Str×Addr)}:∀(l:List (Str×NameKind)) (f:List (Str×Addr)),(∀y∈l,y.2=.free->∃c,d.lookup y.1=some c)->(∀p∈f,d.lookup p.1=some p.2)->∀p∈cloF d l f,d.lookup p.1=some p.2
 |[],f,_,h,p,g=>h p g
 |(n,k)::r,f,j,h,p,g=>by
  unfold cloF at g;refine zhr r _ (λz m=>j z (Yw _ m)) (λq i=>?_) p g;by_cases e:(k == NameKind.free)=true
  ·rw[if_pos e] at i;rcases Zh.mp i with z|z
   ·subst z;obtain⟨c,o⟩:=j (n,k) Wx (by cases k<;>first|rfl|cases e)
    simp only[o,Q9]
   ·exact h q z
  ·rw[if_neg e] at i;exact h q i
theorem zot{d:List (Str×Addr)}:∀(l:List (Str×NameKind)) (f:List (Str×Addr)) (p:Str×Addr),p∈f->p∈cloF d l f
 |[],_,_,h=>h
 |(n,k)::r,f,p,h=>by
  unfold cloF;refine zot r _ p ?_;by_cases e:(k == NameKind.free)=true
  ·rw[if_pos e];exact Yw _ h
  ·rw[if_neg e];exact h
theorem zmk{d:List (Str×Addr)}:∀(l:List (Str×NameKind)) (e:List (Str×Addr)) (x:Str),(x,NameKind.free)∈l->∃c,(x,c)∈cloF d l e
 |(n,k)::r,e,x,h=>by
  unfold cloF;rcases Zh.mp h with z|z
  ·cases z;have f:(NameKind.free == NameKind.free)=true:=rfl;simp only[f,if_true];exact⟨_,zot r _ _ Wx⟩
  ·exact zmk r _ x z
theorem zbq{d:Type}:∀{l:List (Str×d)}{x:Str}{c:d},l.lookup x=some c->(x,c)∈l
 |[],_,_,h=>by cases h
 |(n,a)::r,x,c,h=>by
  rw[Qt] at h;cases q:(x == n) with
  |true=>rw[q] at h;cases h;rw[eq_of_beq q];exact Wx
  |false=>rw[q] at h;exact Yw _ (zbq h)
theorem zga{d:Type}:∀{l:List (Str×d)}{x:Str}{c:d},(x,c)∈l->∃e,l.lookup x=some e
 |(n,a)::r,x,c,h=>by
  rw[Qt];cases q:(x == n) with
  |true=>exact⟨_,rfl⟩
  |false=>
   rcases Zh.mp h with z|z
   ·cases z;rw[beq_self_eq_true] at q;cases q
   ·exact zga z
open PySem L2 PyProof.Rows
def zej{scope:Scope}{env:Env}{x:Str}:(relabel scope env).names.lookup x=(scope.names.lookup x).map λk=>if (k == NameKind.free && env.scope.kind == .function && env.kindOf x == some .cell)=true then NameKind.cell else k:=by
 unfold relabel;simp only
 generalize scope.names=l;induction l with
 |nil=>rfl
 |cons y l e=>
  obtain⟨n,k⟩:=y
  rw[Zx];by_cases d:(k == NameKind.free && env.scope.kind == .function && env.kindOf n == some .cell)=true
  ·simp only[d,if_true];rw[Qt,Qt];cases q:(x == n) with
   |true=>have:=eq_of_beq q;subst this;simp only[Wi];rw[if_pos d]
   |false=>simpa using e
  ·simp only[d];rw[if_neg vC,Qt,Qt];cases q:(x == n) with
   |true=>have:=eq_of_beq q;subst this;simp only[Wi];rw[if_neg d]
   |false=>simpa using e
def blk(X:Cx)(scope:Scope)(d:List (Str×Addr))(C:Addr)(N':List Str)(s₀:Shared)(H₀:Hp)(ex:List Addr):Cx:=
 {X with N:=N',s₀:=s₀,H₀:=H₀,env:=compEnvC scope d C X.env,outer:=X.stack,stack:=X.stack,ex:=ex,fn:=λ_=>false,pn:=[],xe:=λ_ _=>False}
section
variable{X:Cx}{pins:List (Addr×Obj)}{σ:L2.St}{H:Hp}{s:Shared}{scope:Scope}{C:Addr}{N':List Str}{fp:List Addr}
def blk_ok(I:Inv X pins σ H s)(r:scope.kind=.function)(f:∀y∈scope.names,y.2 ≠ .cell)(g:∀y∈scope.names,y.2=.free->∃c,X.env.cells.lookup y.1=some c)
 (n:s.heap.objs.size<=C)(d:∀b∈fp,FpOk X pins H b)(m:∀b∈fp,∃o,s.heap.get? b=some o):(blk X scope (cloF X.env.cells scope.names []) C N' s H fp).Ok:=by
 have i:∀{x c},(cloF X.env.cells scope.names []).lookup x=some c->X.env.cells.lookup x=some c:=λh=>zhr scope.names [] g (λp t=>nomatch t) _ (zbq h)
 refine⟨I.ok.mod,r,I.ok.glob,I.ok.blt,n,λx y c u v=>I.ok.inj x y c (i u) (i v),λx h=>?_,λx c h=>absurd h (by simp[blk]),I.ok.hd,I.ok.frames,.inl rfl,λb j=>?_,I.bs,Wg I.ok.bsz I.sz,λb o e j=>?_,λb j z=>?_,I.stack,I.stkFree⟩
 ·have l:(relabel scope X.env).names.lookup x=some .cell\/(relabel scope X.env).names.lookup x=some .free:=h;rw[zej] at l;have:scope.names.lookup x=some .free:=by
   cases q:scope.names.lookup x with
   |none=>rw[q] at l;rcases l with z|z<;>cases z
   |some k=>
    rw[q] at l;have w:=zbq q;cases k with
    |free=>rfl
    |cell=>exact absurd rfl (f _ w)
    |_=>rcases l with z|z<;>simp at z
  obtain⟨c,A⟩:=zmk scope.names [] x (zbq this)
  exact zga A
 ·obtain⟨o,e⟩:=m b j
  refine⟨?_,λx c h=>(d b j).2.2.2.2.1 x c (i h)⟩
  exact Yh (Ze (Zn e) n)
 ·rcases(d b j).2.2.2.1 with z|z
  ·exact I.ok.noex b o e z
  ·exact absurd (Ze (Zn e) (Wg I.ok.bsz z)) (Wt _)
 ·rcases Zh.mp (I.stkSub b z) with e|e
  ·exact(d b j).2.1 e
  ·exact(d b j).2.2.1 e
def yom{s':Shared}{t:Heap}{t':Nat}{σ':L2.St}(I:Inv X pins σ H s)(O:scope.kind=.function)(l:∀y∈scope.names,y.2 ≠ .cell)(d:∀y∈scope.names,y.2=.free->∃c,X.env.cells.lookup y.1=some c)
 (L:C=s.heap.objs.size)(w:∀b∈fp,FpOk X pins H b)(A:∀b∈fp,∃o,s.heap.get? b=some o){m:Str->Option Value}(B:t.Ns C m)(f:∀b o,s.heap.get? b=some o->t.get? b=some o)
 (P:σ'.length=N'.length)
 (Q:∀(i:Nat) (x:Str) (v:V),N'[i]? = some x->σ'[i]? = some (some v)->scope.names.lookup x=some .free/\X.env.kindOf x=some .cell/\∃j:Nat,X.N[j]? = some x/\σ[j]? = some (some v)):
  Inv (blk X scope (cloF X.env.cells scope.names []) C N' s H fp) [] σ' H {s with heap:=t,toks:=t'}:=by
 have n:∀{x c},(cloF X.env.cells scope.names []).lookup x=some c->X.env.cells.lookup x=some c:=λh=>zhr scope.names [] d (λp D=>nomatch D) _ (zbq h)
 refine⟨blk_ok I O l d (Ge L.symm) w A,rfl,I.bare,Un.kept f,⟨m,B,λi x v R S Z=>?_⟩,λx c e=>?_,?_,λx c e=>I.freeC x c (n e),λp D=>?_,I.hok.kept f,P⟩
 ·obtain⟨M,E,j,T,U⟩:=Q i x v R S
  obtain⟨m0,W,F⟩:=I.loc
  obtain⟨u,r,lk⟩:=F j x v T U (.inr (.inl E))
  refine⟨u,r,.inr ⟨.inl ?_,?_⟩⟩
  ·show(relabel scope X.env).names.lookup x=some .cell;rw[zej,M];have:(X.env.scope.kind == ScopeKind.function)=true:=by rw[I.ok.kind];rfl
   simp[this,E]
  ·rcases lk with⟨z,_⟩|⟨_,c,Y,g⟩
   ·rw[E] at z;cases z
   ·obtain⟨c',G⟩:=zmk scope.names [] x (zbq M)
    obtain⟨c2,q⟩:=zga G
    have:=n q
    rw[Y] at this;cases this;obtain⟨o,J,K⟩:=g
    exact⟨c,q,o,f _ _ J,K⟩
 ·obtain⟨v,o,J,K⟩:=I.cell x c (n e)
  exact⟨v,o,f _ _ J,K⟩
 ·show H C=none;rw[L];exact I.hok.fresh (Zl _)
 ·exact nomatch D
def yon{h:List (Str×Addr)}{σ':L2.St}{f:Hp}{g:Shared}{pl:List (Addr×Obj)}(I:Inv X pins σ H s)(d:∀b∈fp,FpOk X pins H b)(J:Inv (blk X scope h C N' s H fp) pl σ' f g):Inv X pins σ f g:=
 I.call' (ch:=fp) J.os J.base J.hok J.bare λb e=>⟨(d b e).2.2.2.1,(d b e).2.1,(d b e).2.2.2.2.1,(d b e).2.2.2.2.2⟩
end
open PySem L2 PyProof.Rows
section
variable{K:vE}{H0 Fc F H:Hp}{σ:L2.St}{ρ:Rho}
def ER.mutF(R:ER K H0 Fc F H σ ρ){a:Addr}{o:HO}(d:F a=none)(f:H0 a=none):ER K H0 Fc F (upd H a o) σ ρ:=
 ⟨λb u e=>by rw[Bo (λz=>by subst z;rw[d] at e;cases e)];exact R.sub b u e,λb u e=>by rw[Bo (λz=>by subst z;rw[f] at e;cases e)];exact R.same b u e,R.base,R.new,R.env⟩
def ER.here(R:ER K H0 Fc F H σ ρ):ER K H F F H σ ρ:=⟨R.sub,Same.refl _,Same.refl _,λa o e=>.inl e,R.env⟩
def ER.there{g h:Hp}{σ':L2.St}{d:Rho}(R:ER K H0 Fc F H σ ρ)(f:ER K H F g h σ' d):ER K H0 Fc g h σ' d:=
 ⟨f.sub,R.same.trans f.same,R.base.trans f.base,λa o e=>(f.new a o e).elim (R.new a o) λz=>.inr (R.same.free z),f.env⟩
def ER.fewer{f:Rho}(R:ER K H0 Fc F H σ ρ)(h:∀(i:Nat) d,f[i]? = some (some d)->ρ[i]? = some (some d)):ER K H0 Fc F H σ f:=⟨R.sub,R.same,R.base,R.new,λi d e=>R.env i d (h i d e)⟩
end
def DIe(X:Cx)(m e:Expr)(g:Rho)(d:List D):Prop:=∀h i,PI X m e (λj H R=>∃F,ER X.K h i F H j g/\∀J l f,Same F f->ER X.K h i f l j g->Walks X.K f J d->R J l)
def DGe(X:Cx)(j:Expr)(d:D)(l f:Rho):Prop:=∀g h,PG X j (λv i H Q=>i.length=X.N.length/\∃F,ER X.K g h F H i l/\Den X.K F d v/\∀e,e.length=X.N.length->ER X.K g h F H e f->Q e H)
def zca(f:D->Option (Option D)):List D->Option (List D)
 |[]=>some []
 |d::l=>match f d with
  |none=>none
  |some none=>zca f l
  |some (some e)=>(zca f l).map λr=>e::r
def DTs(X:Cx)(d:List Expr)(e:Rho)(k:Bool):Prop:=(d=[]/\k=true)\/∃c,d=[c]/\DT X c e k
section
variable{X:Cx}{pins:List (Addr×Obj)}{σ:L2.St}{H1:Hp}{s2:Shared}{tg elt iter:Expr}{ifs:List Expr}{scope:Scope}{pos:Pos}{fp:List Addr}{it:Addr}{tn:Nat->Heap->Prop}{J:It}{N':List Str}{items res:List D}{f:D->Option (Option D)}{ρ0:Rho}
def CInv(X:Cx)(scope:Scope)(C:Addr)(N':List Str)(l:Shared)(H1:Hp)(D:Addr)(fp:List Addr)(tn:Nat->Heap->Prop)(items:List DL.D)(m o p:Hp)(ρ0:Rho)(f:DL.D->Option (Option DL.D))(res:List DL.D)(n:Nat)(h:Shared):Prop:=
 ∃i d e g j done rest,Inv (blk X scope (cloF X.env.cells scope.names []) C N' l (upd H1 D (.lst [])) fp) [] d e h/\tn i h.heap/\(∀b∈fp,e b=none)/\n=items.length+1-i/\i<=items.length /\
   ER X.K m o g e d ρ0/\Same p g/\g D=none/\e D=some (.lst j)/\DenL X.K g done j/\zca f (items.drop i)=some rest/\done++rest=res/\done.length<=i
def yab{Z Fc F1:Hp}{ρ:Rho}{σ':L2.St}{RR:Value->Addr->Result->Shared->Prop}{E:Value->Shared->Prop}(I:Inv X pins σ H1 s2)(a0:X.calm=true)(T:Turn X.prog X.w X.K tg J fp it tn)(h0:tn 0 s2.heap)(ak:∀b∈fp,FpOk X pins H1 b)
 (hk:scope.kind=.function)(aJ:∀y∈scope.names,y.2 ≠ .cell)(am:∀y∈scope.names,y.2=.free->∃c,X.env.cells.lookup y.1=some c)
 (R1:ER X.K Z Fc F1 H1 σ ρ)(hl:σ'.length=N'.length)(b1:∀(i:Nat) d,ρ0[i]? = some (some d)->∃v,σ'[i]? = some (some v)/\Den X.K F1 d v)
 (hv:∀(i:Nat) (x:Str) (v:V),N'[i]? = some x->σ'[i]? = some (some v)->scope.names.lookup x=some .free/\X.env.kindOf x=some .cell/\∃j:Nat,X.N[j]? = some x/\σ[j]? = some (some v))
 (wk:Walks X.K F1 J items)(b2:items.length<=sizeLine)(au:zca f items=some res)
 (av:∀(C:Addr) (s₀:Shared) (H₀:Hp) (d:D) (o:Option D),d∈items->f d=some o->∃G,DGe (blk X scope (cloF X.env.cells scope.names []) C N' s₀ H₀ fp) tg d ρ0 G/\(∀(i:Nat) d,ρ0[i]? = some (some d)->G[i]? = some (some d)) /\
   (match o with|none=>DTs (blk X scope (cloF X.env.cells scope.names []) C N' s₀ H₀ fp) ifs G false|some e=>DTs (blk X scope (cloF X.env.cells scope.names []) C N' s₀ H₀ fp) ifs G true/\DF (blk X scope (cloF X.env.cells scope.names []) C N' s₀ H₀ fp) elt G e))
 (aw:∀(D C:Addr) (s5:Shared) (H' F':Hp) (ys:List V) (m:Str->Option Value),Inv X pins σ H' s5->s5.heap.Ns C m->H' C=none->C≠X.env.locals->X.s₀.heap.objs.size<=C->(∀x c,X.env.cells.lookup x=some c->c≠C)->(∀p∈X.pn++pins,p.1≠C) ->
   Same F1 F'->ER X.K Z Fc F' H' σ ρ->F' D=none->Z D=none->H' D=some (.lst ys)->DenL X.K F' res ys->RR (.ref D) C (.ok .next) s5)
 {D C:Addr}{O:Shared}{h4:Heap}{tk:Nat}(I3:Inv X pins σ (upd H1 D (.lst [])) O)(aK:∀b∈fp,∃o,O.heap.get? b=some o)(af:∀b∈fp,FpOk X pins (upd H1 D (.lst [])) b)(hC:O.heap.objs.size=C)(J4:Inv (blk X scope (cloF X.env.cells scope.names []) C N' O (upd H1 D (.lst [])) fp) [] σ' (upd H1 D (.lst [])) {O with heap:=h4,toks:=tk})(aL:tn 0 h4)
 (CX:C≠X.env.locals/\X.s₀.heap.objs.size<=C/\(∀x c,X.env.cells.lookup x=some c->c≠C)/\(∀p∈X.pn++pins,p.1≠C))(R4:ER X.K Z Fc F1 (upd H1 D (.lst [])) σ' ρ0)(aM:F1 D=none)(ax:Z D=none):
  codeAny (model X.prog X.w) X.A (.compLoop (.ListComp elt [⟨tg,iter,ifs,0⟩] scope pos) 0 (.ref it) (.ref D) (compEnvC scope (cloF X.env.cells scope.names []) C X.env)) (RR (.ref D) C) {O with heap:=h4,toks:=tk}:=by
 refine codeAny_loop rfl (CInv X scope C N' O H1 D fp tn items Z Fc F1 ρ0 f res) ?_ (items.length+1)
  ⟨0,σ',_,F1,[],[],res,J4,aL,λb W=>(af b W).1,rfl,Yr _,R4,Same.refl _,aM,Bs,DenL.nil,au,rfl,Yr _⟩
 rintro n s5 ⟨i,a7,Ha,Fa,ys,done,rest,J5,ay,az,rfl,hi,R5,P,a1,a8,a9,H,aa,b3⟩
 show wpAny _ X.A ((compTurn (.ListComp elt [⟨tg,iter,ifs,0⟩] scope pos) 0 (.ref it) (.ref D) (compEnvC scope (cloF X.env.cells scope.names []) C X.env)).onRaise (λx=>do noteFrame x (compEnvC scope (cloF X.env.cells scope.names []) C X.env);theTreesLotGoes x)) _ _ s5;refine wpAny_noted ?_;rw[compTurn_list];have fx:∀{Hx:Hp},(∀b∈fp,Hx b=none)->∀b∈fp,FpOk (blk X scope (cloF X.env.cells scope.names []) C N' O (upd H1 D (.lst [])) fp) [] Hx b:=λhn b W=>by
  refine⟨hn b W,?_,?_,.inl W,?_,λp hp=>nomatch hp⟩
  ·obtain⟨o,e⟩:=aK b W
   show b≠C;rw[<-hC];exact Yh (Zn e)
  ·intro z;rcases Zh.mp (I.stkSub b z) with e|e
   ·exact(ak b W).2.1 e
   ·exact(ak b W).2.2.1 e
  ·intro x c h;exact(ak b W).2.2.2.2.1 x c (zhr scope.names [] am (λp hp=>nomatch hp) _ (zbq h))
 have ff:∀{α:Type}{t:Sem α}{Q:α->Shared->Prop}{E':Value->Shared->Prop}{s:Shared},wpAny (model X.prog X.w) X.A t Q (λ_ _=>False) s->wpAny (model X.prog X.w) X.A t Q E' s:=λh=>Uk h (λ_ _ q=>q) λ_ _ z=>z.elim
 have aA:=wk i Ha (P.trans R5.sub);refine Zd (U4 (Zd ?_));by_cases ab:i<items.length
 ·have hd:items[i]? = some items[i]:=Zg ab;rw[Yu ab] at H;obtain⟨go,yl⟩:=aA.1 _ hd
  refine ff (thn (T.item (blk X scope (cloF X.env.cells scope.names []) C N' O (upd H1 D (.lst [])) fp) rfl rfl rfl a0 i [] s5 a7 Ha (λ_ _=>False) J5 (fx az) ay go) λr s6 ⟨u,hr,h6⟩=>?_);subst hr;refine Zd (ff (thn h6 λ_ s7 ⟨x,H7,J7,r7,y7,an,aN⟩=>?_));obtain⟨R,ae,R7,q7,aB,aC⟩:∃R,Same Fa R/\ER X.K Z Fc R H7 a7 ρ0/\Den X.K R items[i] x/\H7 D=some (.lst ys)/\R D=none:=by
   rcases yl x H7 y7 with⟨e,q⟩|⟨p,xs,ds,hp,e,ex,ed,q⟩
   ·subst e;exact⟨Fa,Same.refl _,R5,q.mono P,a8,a1⟩
   ·subst e ex;obtain⟨R8,s8⟩:=R5.lay (.tup xs) hp
    have aD:D≠p:=λz=>by subst z;rw[a8] at hp;cases hp
    refine⟨_,s8,R8,?_,by rw[Bo aD];exact a8,by rw[Bo aD];exact a1⟩
    rw[ed];exact Den.tup_mk (SqT.of Bs) ((q.mono P).mono s8)
  have J8:=J7.pinned (fx aN) (T.obj _ _ an);have aE:∀{s9:Shared}{B:L2.St}{S F9:Hp}{zs:List V}{more left:List DL.D},Inv (blk X scope (cloF X.env.cells scope.names []) C N' O (upd H1 D (.lst [])) fp) ([]++zkl fp s7.heap) B S s9->ER X.K Z Fc F9 S B ρ0->Same F1 F9->F9 D=none->S D=some (.lst zs)->DenL X.K F9 more zs ->
    zca f (items.drop (i+1))=some left->more++left=res->more.length<=i+1 ->
    ∃m,m<items.length+1-i/\CInv X scope C N' O H1 D fp tn items Z Fc F1 ρ0 f res m s9:=by
   intro s9 B S F9 zs more left J9 R9 aO aP aQ aR aS aT aU;refine⟨items.length+1-(i+1),by omega,i+1,B,S,F9,zs,more,left,J9.unpinned,?_,λb W=>?_,rfl,ab,R9,aO,aP,aQ,aR,aS,aT,aU⟩
   ·exact T.keep _ _ _ an λb W o e=>(J9.pin (b,o) (Yk _ (Yk _ (zea W e)))).1
   ·obtain⟨o,e,_⟩:=T.obj _ _ an b W
    exact(J9.pin (b,o) (Yk _ (Yk _ (zea W e)))).2.1
  unfold zca at H;cases hf:f items[i] with
  |none=>rw[hf] at H;cases H
  |some o=>
   rw[hf] at H;obtain⟨G,hG,ag,hO⟩:=av C O (upd H1 D (.lst [])) items[i] o (Kf ab) hf
   refine Zd (ff (thn (hG Z Fc _ s7 a7 H7 x u (λB S=>S=H7/\ER X.K Z Fc R H7 B G) J8 r7 ⟨J7.len,R,R7,q7,λB b4 R9=>⟨rfl,R9⟩⟩) λ_ s8 ⟨B,S,J9,e9,R9⟩=>?_));subst e9;have a2:∀k,DTs (blk X scope (cloF X.env.cells scope.names []) C N' O (upd H1 D (.lst [])) fp) ifs G k ->
     wpAny (model X.prog X.w) X.A (forIn ifs true λc r=>if r=true then do let ok <-isTrue c (compEnvC scope (cloF X.env.cells scope.names []) C X.env) (eval c (compEnvC scope (cloF X.env.cells scope.names []) C X.env));pure (ForInStep.yield ok) else pure (ForInStep.yield r))
      (λok s'=>ok=k/\∃l g,Inv (blk X scope (cloF X.env.cells scope.names []) C N' O (upd H1 D (.lst [])) fp) ([]++zkl fp s7.heap) B l s'/\Same R g/\ER X.K S R g l B G) (λ_ _=>False) s8:=by
    intro k hk;rcases hk with⟨e1,e2⟩|⟨c,e1,hT⟩
    ·subst e1 e2;exact wpAny_tests_nil ⟨rfl,S,R,J9,Same.refl _,R9.here⟩
    ·subst e1;refine wpAny_tests_one (thn (hT S R _ s8 B S (λb l=>b=k/\∃g,Same R g/\ER X.K S R g l B G) J9 ⟨R,R9.here,λl g L F=>⟨rfl,g,L,F⟩⟩) λb s' ⟨l,a3,aV,g,L,F⟩=>⟨aV,l,g,a3,L,F⟩)
   have a4:∀{g l:Hp}{σ':L2.St}{aF:Rho},ER X.K S R g l σ' aF->l D=some (.lst ys)/\g D=none:=λ{g l σ' aF} F=>by
    refine⟨F.same D _ aB,?_⟩
    cases z:g D with
    |none=>rfl
    |some o=>
     rcases F.new D o z with w|w
     ·rw[aC] at w;cases w
     ·rw[aB] at w;cases w
   cases o with
   |none=>
    refine Zd (ff (thn (a2 false hO) λok s9 ⟨ao,l,g,a3,L,F⟩=>?_));subst ao;obtain⟨U,a5⟩:=a4 F
    refine Zs ⟨rfl,aE a3 ((R9.there F).fewer ag) ((P.trans ae).trans L) a5 U ((a9.mono ae).mono L) H aa vB⟩
   |some e=>
    obtain⟨hT,hE⟩:=hO
    obtain⟨left,ap,aq⟩:=Zb.mp H
    subst aq;refine Zd (ff (thn (a2 true hT) λok s9 ⟨ao,l,g,a3,L,F⟩=>?_));subst ao;obtain⟨U,a5⟩:=a4 F
    have ah:=R9.there F;rw[if_pos rfl];refine Zd (Zd (ff (thn (hE l g _ s9 B l (λv Y=>∃M,Same g M/\ER X.K l g M Y B G/\Den X.K M e v) a3 ⟨g,ah.here,λv Y M ar a6 as=>⟨M,ar,a6,as⟩⟩) λuv ar ⟨v,Y,aW,aX,M,ai,a6,as⟩=>?_)));have aG:Y D=some (.lst ys):=a6.same D _ U;have aj:M D=none:=by
     cases z:M D with
     |none=>rfl
     |some o=>
      rcases a6.new D o z with w|w
      ·rw[a5] at w;cases w
      ·rw[U] at w;cases w
    have b5:ys.length=done.length:=a9.length;have aH:=ah.there a6;refine Zd (ff (thn (ziu _ ar B Y (.ref D) [v] (.ref D) [uv] (λ_ aI=>aI=upd Y D (.lst (ys++[v]))) aW rfl #v[aX] ⟨D,ys,v,rfl,rfl,aG,by omega,rfl⟩) λ_ b6 ⟨_,aI,aY,_,aZ⟩=>?_));subst aZ;refine Zs (Zs ⟨rfl,aE (zs:=ys++[v]) (more:=done++[e]) aY ((aH.mutF aj ax).fewer ag) (((P.trans ae).trans L).trans ai) aj Bs ((((a9.mono ae).mono L).mono ai).append (DenL.cons as DenL.nil)) ap (by rw[List.append_assoc];exact aa) (by rw[Yc,V8];omega)⟩)
 ·have e:i=items.length:=by omega
  subst e;rw[Be] at H;cases H;rw[Jb] at aa;subst aa;refine ff (thn (T.done (blk X scope (cloF X.env.cells scope.names []) C N' O (upd H1 D (.lst [])) fp) rfl rfl rfl a0 _ [] s5 a7 Ha (λ_ _=>False) J5 (fx az) ay (aA.2 (Zl _))) λr s6 ⟨hr,J6⟩=>?_);subst hr;obtain⟨m,b0,_⟩:=J6.loc
  refine Zs (aw D C s6 Ha Fa ys m (yon I3 af J6) b0 J6.free CX.1 CX.2.1 CX.2.2.1 CX.2.2.2 P ⟨R5.sub,R5.same,R5.base,R5.new,λj d e=>?_⟩ a1 ax a8 a9);obtain⟨v,g1,g2⟩:=R1.env j d e
  exact⟨v,g1,g2.mono P⟩
def yfm{u U t:Hp}{W:Rho}{σ':L2.St}{RR:Value->Addr->Result->Shared->Prop}{E:Value->Shared->Prop}(I:Inv X pins σ H1 s2)(s:X.calm=true)(T:Turn X.prog X.w X.K tg J fp it tn)(h0:tn 0 s2.heap)(Y:∀b∈fp,FpOk X pins H1 b)
 (Z:scope.kind=.function)(g:∀y∈scope.names,y.2 ≠ .cell)(l:∀y∈scope.names,y.2=.free->∃c,X.env.cells.lookup y.1=some c)
 (R1:ER X.K u U t H1 σ W)(hl:σ'.length=N'.length)(z:∀(i:Nat) d,ρ0[i]? = some (some d)->∃v,σ'[i]? = some (some v)/\Den X.K t d v)
 (hv:∀(i:Nat) (x:Str) (v:V),N'[i]? = some x->σ'[i]? = some (some v)->scope.names.lookup x=some .free/\X.env.kindOf x=some .cell/\∃j:Nat,X.N[j]? = some x/\σ[j]? = some (some v))
 (wk:Walks X.K t J items)(a0:items.length<=sizeLine)(B:zca f items=some res)
 (F:∀(C:Addr) (s₀:Shared) (H₀:Hp) (d:D) (o:Option D),d∈items->f d=some o->∃n,DGe (blk X scope (cloF X.env.cells scope.names []) C N' s₀ H₀ fp) tg d ρ0 n/\(∀(i:Nat) d,ρ0[i]? = some (some d)->n[i]? = some (some d)) /\
   (match o with|none=>DTs (blk X scope (cloF X.env.cells scope.names []) C N' s₀ H₀ fp) ifs n false|some e=>DTs (blk X scope (cloF X.env.cells scope.names []) C N' s₀ H₀ fp) ifs n true/\DF (blk X scope (cloF X.env.cells scope.names []) C N' s₀ H₀ fp) elt n e))
 (G:∀(D C:Addr) (s5:Shared) (H' R:Hp) (ys:List V) (m:Str->Option Value),Inv X pins σ H' s5->s5.heap.Ns C m->H' C=none->C≠X.env.locals->X.s₀.heap.objs.size<=C->(∀x c,X.env.cells.lookup x=some c->c≠C)->(∀p∈X.pn++pins,p.1≠C) ->
   Same t R->ER X.K u U R H' σ W->R D=none->u D=none->H' D=some (.lst ys)->DenL X.K R res ys->RR (.ref D) C (.ok .next) s5)
 {D:Addr}{h:Shared}(H:Inv X pins σ (upd H1 D (.lst [])) h)(L:∀b∈fp,∃o,h.heap.get? b=some o)(q:∀b∈fp,FpOk X pins (upd H1 D (.lst [])) b)(a1:tn 0 h.heap)(S:ER X.K u U t (upd H1 D (.lst [])) σ W)(a2:t D=none)(a3:u D=none):
  wpAny (model X.prog X.w) X.A (newFunctionEnv scope X.env.globals (cloF X.env.cells scope.names []) [] X.env.qual none .none (some X.env)) (λr M=>
   codeAny (model X.prog X.w) X.A (.compStart (.ListComp elt [⟨tg,iter,ifs,0⟩] scope pos) 0 (.ref it) (.ref D) {r with scope:=relabel scope X.env}) (RR (.ref D) r.locals) M) E h:=by
 refine wpAny_newFunctionEnv g (by intro y hy;simp at hy) (λh4 O P=>?_) Z;have k4:∀b o,h.heap.get? b=some o->h4.get? b=some o:=λb o e=>P.extBut b o (Yh (Zn e)) (Zf _ e)
 have J4:=yom (t':=h.toks+([]:List (Str×Value)).length) (s':=h) (N':=N') H Z g l rfl q L O k4 hl hv;have Q:tn 0 h4:=T.keep 0 _ _ a1 λb hb o e=>k4 b o e
 have CX:h.heap.objs.size≠X.env.locals/\X.s₀.heap.objs.size<=h.heap.objs.size/\(∀x c,X.env.cells.lookup x=some c->c≠h.heap.objs.size)/\(∀p∈X.pn++pins,p.1≠h.heap.objs.size):=by
  obtain⟨_,b1,_,b3,b4,b5⟩:=H.fpOk (H':=upd H1 D (.lst [])) (b:=h.heap.objs.size) (Zl _) (H.hok.fresh (Zl _))
  exact⟨b1,H.sz,b4,b5⟩
 have loop:=yab (elt:=elt) (iter:=iter) (pos:=pos) (RR:=RR) (E:=E) I s T h0 Y Z g l R1 hl z hv wk a0 B F G H L q rfl J4 Q CX ⟨S.sub,S.same,S.base,S.new,z⟩ a2 a3;exact codeAny_compStart_list loop (T.self _ 0 _ _ _ Q loop)
def zkp{K:vE}(hK:K=X.K){P Fc L:Hp}{ρ:Rho}{σ':L2.St}{Q:Value->Addr->Result->Shared->Prop}{E:Value->Shared->Prop}(I:Inv X pins σ H1 s2)(n:X.calm=true)(T:Turn X.prog X.w X.K tg J fp it tn)(R:tn 0 s2.heap)(q:∀b∈fp,FpOk X pins H1 b)
 (hk:scope.kind=.function)(r:∀y∈scope.names,y.2 ≠ .cell)(s:∀y∈scope.names,y.2=.free->∃c,X.env.cells.lookup y.1=some c)
 (R1:ER X.K P Fc L H1 σ ρ)(hl:σ'.length=N'.length)(S:∀(i:Nat) d,ρ0[i]? = some (some d)->∃v,σ'[i]? = some (some v)/\Den X.K L d v)
 (hv:∀(i:Nat) (x:Str) (v:V),N'[i]? = some x->σ'[i]? = some (some v)->scope.names.lookup x=some .free/\X.env.kindOf x=some .cell/\∃j:Nat,X.N[j]? = some x/\σ[j]? = some (some v))
 (wk:Walks X.K L J items)(U:items.length<=sizeLine)(t:zca f items=some res)
 (u:∀(C:Addr) (s₀:Shared) (H₀:Hp) (d:D) (o:Option D),d∈items->f d=some o->∃g,DGe (blk X scope (cloF X.env.cells scope.names []) C N' s₀ H₀ fp) tg d ρ0 g/\(∀(i:Nat) d,ρ0[i]? = some (some d)->g[i]? = some (some d)) /\
   (match o with|none=>DTs (blk X scope (cloF X.env.cells scope.names []) C N' s₀ H₀ fp) ifs g false|some e=>DTs (blk X scope (cloF X.env.cells scope.names []) C N' s₀ H₀ fp) ifs g true/\DF (blk X scope (cloF X.env.cells scope.names []) C N' s₀ H₀ fp) elt g e))
 (z:∀(D C:Addr) (Y:Shared) (M O:Hp) (ys:List V) (m:Str->Option Value),Inv X pins σ M Y->Y.heap.Ns C m->M C=none->C≠X.env.locals->X.s₀.heap.objs.size<=C->(∀x c,X.env.cells.lookup x=some c->c≠C)->(∀p∈X.pn++pins,p.1≠C) ->
   Same L O->ER X.K P Fc O M σ ρ->O D=none->P D=none->M D=some (.lst ys)->DenL X.K O res ys->Q (.ref D) C (.ok .next) Y):
  wpAny (model X.prog X.w) X.A (newList []) (λB F=>wpAny (model X.prog X.w) X.A (newFunctionEnv scope X.env.globals (cloF X.env.cells scope.names []) [] X.env.qual none .none (some X.env)) (λh G=>
   codeAny (model X.prog X.w) X.A (.compStart (.ListComp elt [⟨tg,iter,ifs,0⟩] scope pos) 0 (.ref it) B {h with scope:=relabel scope X.env}) (Q B h.locals) G) E F) E s2:=by
 have H:∀b∈fp,∃o,s2.heap.get? b=some o:=λb l=>by
  obtain⟨o,e,_⟩:=T.obj 0 _ R b l
  exact⟨o,e⟩
 have k3:∀b o,s2.heap.get? b=some o->(s2.heap.push {cls:=.type "list",data:=.seq ([]:List Value).toArray}).get? b=some o:=λb o e=>Zf _ e
 obtain⟨R3,Z,a0⟩:=R1.put (.lst []) (I.hok.fresh (Zl _))
 refine Jt ?_ (by show 0<=sizeLine;exact Yr _);exact yfm (elt:=elt) (iter:=iter) (pos:=pos) (RR:=Q) I n T R q hk r s R1 hl S hv wk U t u z (L2.Inv.lnew (its:=[]) (t':=s2.toks) I .nil (Yr _)) (λb l=>let ⟨o,e⟩:=H b l;⟨o,k3 b o e⟩)
  (λb l=>⟨by rw[Bo (by obtain⟨o,e⟩:=H b l;exact Yh (Zn e))];exact(q b l).1,(q b l).2⟩) (T.keep 0 _ _ R λb l o e=>k3 b o e) R3 Z a0
end
def blkR{d:Type}(k:Nat)(fr:List Nat)(e:List (Option d)):List (Option d):=List.replicate k none++fr.map λi=>(e[i]?).bind id
def zec{f:Type}{k:Nat}{fr:List Nat}{e:List (Option f)}{i:Nat}{v:f}(h:(blkR k fr e)[i]? = some (some v)):∃m j,i=k+m/\fr[m]? = some j/\e[j]? = some (some v):=by
 unfold blkR at h;by_cases g:i<k
 ·rw[Yt (by rw[Yy];exact g),Wl] at h;split at h<;>cases h
 ·rw[Yg (by rw[Yy];omega),Yy,Zj] at h;cases q:fr[i-k]? with
  |none=>rw[q] at h;cases h
  |some j=>
   rw[q] at h;refine⟨i-k,j,by omega,q,?_⟩
   have d:(e[j]?).bind id=some v:=Z3 h;cases z:e[j]? with
   |none=>rw[z] at d;cases d
   |some o=>rw[z] at d;cases o with
    |none=>cases d
    |some l=>exact congrArg some d
def yar{d:Type}{k:Nat}{fr:List Nat}{e:List (Option d)}{m j:Nat}{v:d}(f:fr[m]? = some j)(g:e[j]? = some (some v)):(blkR k fr e)[k+m]? = some (some v):=by
 unfold blkR;rw[Yg (by rw[Yy];omega),Yy,Zj,show k+m-k=m by omega,f];simp[g]
def zth{d:Type}{k:Nat}{fr:List Nat}{e:List (Option d)}:(blkR k fr e).length=k+fr.length:=by
 unfold blkR;rw[Yc,Yy,Zc]
open PySem L2 PyProof.Rows
section
variable{X:Cx}{e a b:Expr}{es:List Expr}{ρ:Rho}{pos:Pos}{w:W}
def ylj:OpR X (binaryOp .Add) (λx y H Q=>∃l b g i,x=.ref l/\y=.ref b/\SqL X.K H l g/\SqL X.K H b i/\g.length+i.length<=sizeLine/\∀p,H p=none->Q (.ref p) (upd H p (.lst (g++i)))):=by
 intro z s V H x y v u Q I D E h;obtain⟨l,b,g,i,rfl,rfl,G,J,W,q⟩:=h
 cases D;cases E;obtain⟨e,r,pl,Y⟩:=I.list G
 obtain⟨d,A,j,Z⟩:=I.list J
 obtain⟨⟨L,m,M,sl1⟩,n,B,N,O,P⟩:=pl
 obtain⟨⟨R,o,S,sl2⟩,T,f,t,C,w⟩:=j
 cases N;cases P;cases t;cases w
 have l1:=r.length;have l2:=A.length;have U:e.toArray++d.toArray=(e++d).toArray:=by simp
 refine concat_meets ⟨_,B,rfl⟩ ⟨_,f,rfl⟩ noFill_list_add seq_list_add PySem.F.slot_list_add PySem.F.entry_list_add (PySem.F.args_list_add_2 _ _) (list_addW l b e.toArray d.toArray n T m o sl1 sl2 (by simp only[Zt];omega)) ⟨B,f,?_⟩;rw[U];exact⟨.ref _,_,I.lnew (t':=s.toks) (r.append A) (by rw[Yc];omega),rfl,q _ I.fresh⟩
def DE.cat{l m:List D}(j:DF X a ρ (.lst l))(o:DF X b ρ (.lst m))(s:l.length+m.length<=sizeLine):DE X (.BinOp a .Add b pos) ρ (.new (l++m)):=λe f=>
 PE.mono (yky ylj (j e f) (o e f)) (zed λH F K v u Q R t w k=>by
  obtain⟨p,g,z,A,r⟩:=t.lst
  obtain⟨B,h,C,d,i⟩:=w.lst
  subst z;subst C;refine⟨p,B,g,h,rfl,rfl,R.sub.seq A,R.sub.seq d,by rw[r.length,i.length];exact s,λq E=>?_⟩
  obtain⟨G,I,J⟩:=R.put (.lst (g++h)) E
  exact k _ _ _ (Same.refl _) G (RW.n I J Bs (r.append i)))
def yoj{i j:Int}(d:X.calm=true):zha X (.builtin "min") [.int i,.int j] (.val (.int (if j<i then j else i))):=⟨_,yak d,λh l H F m ρ n Q R q k=>by
 obtain⟨v,u,e,f,g⟩:=q.two
 rw[f.int,g.int] at e;exact⟨i,j,e,k _ H F (Same.refl _) R RW.int⟩⟩
def yok{i j:Int}(d:X.calm=true):zha X (.builtin "max") [.int i,.int j] (.val (.int (if i<j then j else i))):=⟨_,yam d,λh l H F m ρ n Q R q k=>by
 obtain⟨v,u,e,f,g⟩:=q.two
 rw[f.int,g.int] at e;exact⟨i,j,e,k _ H F (Same.refl _) R RW.int⟩⟩
end
section
variable{X:Cx}{e:Expr}{ρ:RhoS}{pos:Pos}
def zks{K:vE}{f g F H:Hp}{e:L2.St}(S:SR K f g F H e ρ){i:Nat}{l:List D}(h:ρ[i]? = some (some (.ow l))):∃a d,e[i]? = some (some (.ref a))/\H a=some (.lst d)/\DenL K F l d:=by
 obtain⟨a,d,p,_,_,j,m⟩:=S.own i l h
 exact⟨a,d,p,j,m⟩
def DS.app{i:Nat}{x:Str}{l:List D}{d:D}{p o r B:Pos}(C:X.N[i]? = some x)(E:Vis X.env.scope x)(G:(x == ("__debug__" : Str))=false)(m:(x == ("__classdict__" : Str))=false)(g:ρ[i]? = some (some (.ow l)))(I:DE X e (view ρ) (.val d))(n:Bm e=true)(J:lf d=true)(K:l.length<sizeLine)
 (f:(o.endLine == r.line)=true):DS X (.Expr (.Call (.Attribute (.Name x p) "append" o) [e] [] r) B) ρ (.nx (ρ.set i (some (.ow (l++[d]))))):=λL M=>
 PS.mono (zfx (ydp F.plainAttrs_list slot_list_append F.type_list_append ziu (zat C E G m) (zda (I L M) zgk (Bu n)) rfl (by rw[Bu n];rfl) f (Bu n) rfl) rfl) λD O H ⟨F,S,k⟩=>by
  obtain⟨a,h,j,s,P⟩:=zks S g
  obtain⟨Y,R⟩:=S.borrow
  refine⟨_,j,.inl ⟨rfl,h,SqL.of s⟩,_,R,λv Q Z t R2 q=>?_⟩
  obtain⟨T,U,u,V⟩:=S.back t R2 q J
  obtain⟨a',W,w,z,g3⟩:=zks u g
  rw[j] at w;cases w;have A:Q a=some (.lst h):=by
   have:=t a (.lst h) (by unfold DL.borrow;rw[if_pos ⟨i,l,g,j⟩];exact s)
   exact R2.sub _ _ this
  rw[A] at z;cases z;refine⟨a,h,v,rfl,rfl,A,by rw[P.length];exact K,k O _ T U (u.mut g j (g3.append (DenL.cons V DenL.nil)))⟩
theorem DenL.set{K:vE}{F:Hp}{d:D}{v:V}(q:Den K F d v):∀{l:List D}{f:List V}(n:Nat),DenL K F l f->DenL K F (l.set n d) (f.set n v)
 |[],_,n,h=>by rw[h.inv_nil];simpa using DenL.nil
 |e::l,_,0,h=>by
  obtain⟨u,i,z,g,r⟩:=h.inv_cons
  subst z;exact DenL.cons q r
 |e::l,_,n+1,h=>by
  obtain⟨u,i,z,g,r⟩:=h.inv_cons
  subst z;exact DenL.cons g (DenL.set q n r)
def DS.seti{i n:Nat}{x:Str}{l:List D}{d:D}{j:Int}{p sp u:Pos}{k:Expr}(J:X.N[i]? = some x)(L:Vis X.env.scope x)(M:(x == ("__debug__" : Str))=false)(h:(x == ("__classdict__" : Str))=false)(f:ρ[i]? = some (some (.ow l)))(O:DE X e (view ρ) (.val d))(P:DF X k (view ρ) (.int j))(Q:lf d=true)(T:ixN l.length j=some n)
 (m:zdz k=true)(o:swapsWithSole [.Subscript (.Name x p) k sp] e u.line X.env=pure false)(U:swappedStores [.Subscript (.Name x p) k sp] e X.env=pure none):DS X (.Assign [.Subscript (.Name x p) k sp] e u) ρ (.nx (ρ.set i (some (.ow (l.set n d))))):=λr w=>
 PS.mono (yhd (O r w) (pg_sub (zat J L M h) (P r w) ycp (by intro v;cases k<;>first|rfl|(cases m;done))) o U rfl) λD z H ⟨F,S,V⟩=>by
  obtain⟨a,s,g,W,Y⟩:=zks S f
  obtain⟨s0,R⟩:=S.borrow
  have Z:Owned z ρ a:=⟨i,l,f,g⟩;refine⟨_,R,λv H2 F2 A R2 q=>?_⟩
  refine⟨.ref a,g,F2,R2,λkv H3 F3 t B q3=>?_⟩
  obtain⟨F4,s4,C,q4⟩:=S.back (A.trans t) B (show RW X.K r F3 H3 (.val d) v from Den.mono t d q) Q
  obtain⟨a',a0,E,G,g3⟩:=zks C f
  rw[g] at E;cases E;have I:H3 a=some (.lst s):=by
   have:=(A.trans t) a (.lst s) (by unfold DL.borrow;rw[if_pos Z];exact W)
   exact B.sub _ _ this
  rw[I] at G;cases G;refine⟨a,s,j,n,rfl,q3.int,I,by rw[Y.length];exact T,V z _ F4 s4 (C.mut f g (DenL.set q4 n g3))⟩
end
end DL
namespace DL
open PySem
end DL
namespace DL
open PySem
end DL
namespace DL
open PySem
section
variable{prog:Program}{w:World}{A:Around}{E:Value->Shared->Prop}{s:Shared}
abbrev IsTK(prog:Program)(w:World)(h:Heap)(k:List Int)(a:Addr):Prop:=IsTupleKey (intKind prog w) h k a
end
end DL
namespace DL
open PySem
section
variable{prog:Program}{w:World}{A:Around}{E:Value->Shared->Prop}{s:Shared}
end
end DL
namespace DL
open PySem
section
variable{prog:Program}{w:World}{A:Around}{E:Value->Shared->Prop}{s:Shared}
end
end DL
namespace DL
open PySem
section
variable{prog:Program}{w:World}{A:Around}{E:Value->Shared->Prop}{s:Shared}
end
end DL
namespace DL
open PySem
section
variable{prog:Program}{w:World}{A:Around}{E:Value->Shared->Prop}{s:Shared}
end
end DL
namespace DL
open PySem
section
variable{prog:Program}{w:World}{A:Around}{E:Value->Shared->Prop}{s:Shared}
end
end DL
namespace DL
open PySem PySem.W PyProof.Rows
structure Ord(N:Nat)(b:Nat->Nat->Bool):Prop where
 tr:∀i j k,b i j=true->b j k=true->b i k=true
 tot:∀i j,i<N->j<N->i≠j->b i j=true\/b j i=true
 asy:∀i j,b i j=true->b j i=true->False
def Arr(N:Nat)(p:Array Nat):Prop:=p.toList.Perm (List.range N)
def Srt(b:Nat->Nat->Bool)(p:Array Nat)(k:Nat):Prop:=∀i j,i<j->j<k->b (p.getD i 0) (p.getD j 0)=true
section
variable{b:Nat->Nat->Bool}{N:Nat}{p:Array Nat}
theorem Arr.size(h:Arr N p):p.size=N:=by
 have:=h.length_eq
 simpa using this
def gd{i:Nat}(h:i<p.size):p.getD i 0=p[i]:=by simp[Array.getD,h]
def gd?{q:Array Nat}{i j:Nat}(h:p[i]? = q[j]?):p.getD i 0=q.getD j 0:=by
 have e:∀(a:Array Nat) (k:Nat),a.getD k 0=(a[k]?).getD 0:=λa k=>by
  by_cases q:k<a.size
  ·rw[gd q,Qh q];rfl
  ·simp[Array.getD,q]
 rw[e,e,h]
def Arr.lt(h:Arr N p)(d:0<N)(i:Nat):p.getD i 0<N:=by
 by_cases q:i<p.size
 ·rw[gd q];exact Wj.mp (h.mem_iff.mp (J2.mpr (Array.getElem_mem q)))
 ·rw[show p.getD i 0=0 by simp[Array.getD,q]];exact d
def Arr.inj(h:Arr N p){i j:Nat}(l:i<N)(m:j<N)(e:p.getD i 0=p.getD j 0):i=j:=by
 have n:p.toList.Nodup:=h.nodup_iff.mpr List.nodup_range;have d:i<p.size:=by rw[h.size];exact l
 have f:j<p.size:=by rw[h.size];exact m
 rw[gd d,gd f] at e;have:=Qi.mp n
 rcases Nat.lt_trichotomy i j with q|q|q
 ·have g:=this i j d f q;rw[Qk,Qk] at g;exact absurd e g
 ·exact q
 ·have g:=this j i f d q;rw[Qk,Qk] at g;exact absurd e.symm g
def Arr.perm{q:Array Nat}(h:Arr N p)(e:q.Perm p):Arr N q:=(Array.perm_iff_toList_perm.mp e).trans h
def Srt.more(O:Ord N b){n:Nat}(h:Srt b p n)(f:1<=n)(e:b (p.getD (n-1) 0) (p.getD n 0)=true):Srt b p (n+1):=λi j d g=>by
 by_cases q:j<n
 ·exact h i j d q
 ·have:j=n:=by omega
  subst this;by_cases z:i=j-1
  ·subst z;exact e
  ·exact O.tr _ _ _ (h i (j-1) vB vB) e
def Ord.not(O:Ord N b)(A:Arr N p){i j:Nat}(d:i<N)(f:j<N)(g:i≠j)(h:b (p.getD i 0) (p.getD j 0)=false):b (p.getD j 0) (p.getD i 0)=true:=by
 rcases O.tot (p.getD i 0) (p.getD j 0) (A.lt vB i) (A.lt vB j) (λe=>g (A.inj d f e)) with q|q
 ·rw[h] at q;cases q
 ·exact q
section
variable{cmp:Nat->Nat->(Bool->Shared->Prop)->Shared->Prop}{s:Shared}
abbrev zri(N:Nat)(b:Nat->Nat->Bool)(s:Shared)(cmp:Nat->Nat->(Bool->Shared->Prop)->Shared->Prop):Prop:=∀(i j:Nat) (C:Bool->Shared->Prop),i<N->j<N->C (b i j) s->cmp i j C s
theorem ybf(i:zri N b s cmp)(O:Ord N b)(A:Arr N p):∀(f n:Nat) (G:Nat->Shared->Prop),1<=n->n+f<=N->Srt b p n->(∀m,n<=m->m<=n+f->Srt b p m->(m<n+f->b (p.getD m 0) (p.getD (m-1) 0)=true)->G m s)->(kas_asc p f n).kasWp cmp G s
 |0,n,G,j,l,d,g=>g n (Zl _) vB d λh=>by omega
 |f+1,n,G,j,l,d,g=>by
  unfold kas_asc;refine i _ _ _ (A.lt vB _) (A.lt vB _) ?_;cases e:b (p.getD n 0) (p.getD (n-1) 0) with
  |true=>
   dsimp only;rw[if_pos rfl];exact g n (Zl _) vB d λ_=>e
  |false=>
   dsimp only;rw[if_neg Zw];exact ybf i O A f (n+1) G vB vB (d.more O j (O.not A vB vB vB e)) λm r t o q=>g m vB vB o λz=>q vB
def Fal(b:Nat->Nat->Bool)(p:Array Nat)(k:Nat):Prop:=∀i j,i<j->j<k->b (p.getD j 0) (p.getD i 0)=true
def Fal.more(O:Ord N b){n:Nat}(h:Fal b p n)(f:1<=n)(e:b (p.getD n 0) (p.getD (n-1) 0)=true):Fal b p (n+1):=λi j d g=>by
 by_cases q:j<n
 ·exact h i j d q
 ·have:j=n:=by omega
  subst this;by_cases z:i=j-1
  ·subst z;exact e
  ·exact O.tr _ _ _ e (h i (j-1) vB vB)
theorem zzs(h:zri N b s cmp)(O:Ord N b)(A:Arr N p):∀(f n:Nat) (G:Array Nat×Nat×Nat->Shared->Prop),1<=n->n+f<=N->Fal b p n->(∀m,n<=m->m<=n+f->Fal b p m->G (p,m,0) s)->(kas_desc f p n 0).kasWp cmp G s
 |0,n,G,i,j,d,g=>g n (Zl _) vB d
 |f+1,n,G,i,j,d,g=>by
  unfold kas_desc;refine h _ _ _ (A.lt vB _) (A.lt vB _) ?_;cases e:b (p.getD n 0) (p.getD (n-1) 0) with
  |true=>
   dsimp only;rw[if_pos rfl,if_neg vB];exact zzs h O A f (n+1) G vB vB (d.more O i e) λm o q l=>g m vB vB l
  |false=>
   dsimp only;rw[if_neg Zw];refine h _ _ _ (A.lt vB _) (A.lt vB _) ?_;dsimp only;rw[O.not A vB vB vB e,if_pos rfl];exact g n (Zl _) vB d
def zwu(A:Arr N p)(i j:Nat):Arr N (kas_rev p i j):=A.perm (mirror_perm _ _ _ _)
def ykk{n:Nat}(d:n<=p.size)(h:Fal b p n):Srt b (kas_rev p 0 n) n:=λi j f g=>by
 have e:∀k,k<n->(kas_rev p 0 n).getD k 0=p.getD (n-1-k) 0:=λk l=>by
  unfold kas_rev;refine gd? ?_;rw[getElem?_mirror_all d,if_pos vB,Wc]
 rw[e i vB,e j vB];exact h _ _ vB vB
def yck(d:zri N b s cmp)(O:Ord N b)(A:Arr N p){n:Nat}{G:Nat×Array Nat->Shared->Prop}(e:1<=n)(f:n<=N)(g:Fal b p n)(h:∀m q,Arr N q->1<=m->m<=N->Srt b q m->G (m,q) s):(kas_tail3 n N p).kasWp cmp G s:=by
 unfold kas_tail3;rw[KasT.kasWp_bind];exact ybf d O (zwu A 0 n) (N-n) n _ e vB (ykk (by rw[A.size];exact f) g) λm j l i _=>h m _ (zwu A 0 n) vB vB i
def yfj(d:zri N b s cmp)(O:Ord N b)(A:Arr N p){G:Nat×Array Nat->Shared->Prop}(u:1<=N)(e:∀m q,Arr N q->1<=m->m<=N->Srt b q m->G (m,q) s):(kas_count N p).kasWp cmp G s:=by
 unfold kas_count;rw[KasT.kasWp_bind];refine ybf d O A (N-1) 1 _ (Zl _) vB (λi j a b=>by omega) λm h v f n=>?_;by_cases g:(m == N)=true
 ·rw[if_pos g];exact e m p A h vB f
 ·rw[if_neg g];have w:m<N:=by
   have:m≠N:=λq=>g (by rw[q];exact beq_self_eq_true _)
   omega
  by_cases l:m > 1
  ·rw[if_pos l];refine d _ _ _ (A.lt vB _) (A.lt vB _) ?_;dsimp only;rw[f 0 (m-1) vB vB,if_pos rfl];exact e m p A h vB f
  ·rw[if_neg l];have:m=1:=by omega
   subst this;unfold kas_descPart;rw[KasT.kasWp_bind];refine zzs d O A (N-(1+1)) (1+1) _ vB vB (λi j a c=>?_) λm z B o=>?_
   ·have r:i=0:=by omega
    have t:j=1:=by omega
    subst r;subst t;exact n vB
   ·dsimp only;rw[if_neg vB];exact yck d O A vB vB o e
theorem zln(o:zri N b s cmp)(O:Ord N b)(A:Arr N p){k:Nat}(u:k<N)(g:Srt b p k):∀(f l r:Nat) (G:Nat->Shared->Prop),l<=r->r<=k->r-l<=f->(∀i,i<l->b (p.getD k 0) (p.getD i 0)=false)->(∀i,r<=i->i<k->b (p.getD k 0) (p.getD i 0)=true) ->
   (∀m,m<=k->(∀i,i<m->b (p.getD k 0) (p.getD i 0)=false)->(∀i,m<=i->i<k->b (p.getD k 0) (p.getD i 0)=true)->G m s)->(kas_place p k f l r).kasWp cmp G s
 |0,l,r,G,v,h,B,j,n,d=>by
  have:l=r:=by omega
  subst this;exact d l h j n
 |f+1,l,r,G,v,h,B,j,n,d=>by
  unfold kas_place;by_cases q:l >= r
  ·rw[if_pos q];have:l=r:=by omega
   subst this;exact d l h j n
  ·rw[if_neg q];refine o _ _ _ (A.lt vB _) (A.lt vB _) ?_;cases e:b (p.getD k 0) (p.getD ((l+r)/2) 0) with
   |true=>
    dsimp only;rw[if_pos rfl];refine zln o O A u g f l _ G vB vB vB j (λi C t=>?_) d;by_cases z:i=(l+r)/2
    ·subst z;exact e
    ·exact O.tr _ _ _ e (g _ i vB t)
   |false=>
    dsimp only;rw[if_neg Zw];refine zln o O A u g f _ r G vB h vB (λi C=>?_) n d;by_cases z:i=(l+r)/2
    ·subst z;exact e
    ·cases w:b (p.getD k 0) (p.getD i 0) with
     |false=>rfl
     |true=>
      have:=O.tr _ _ _ w (g i ((l+r)/2) vB vB)
      rw[e] at this;cases this
def yog(O:Ord N b)(A:Arr N p){k m:Nat}(l:k<N)(v:m<=k)(h:Srt b p k)(r:∀i,i<m->b (p.getD k 0) (p.getD i 0)=false)(s:∀i,m<=i->i<k->b (p.getD k 0) (p.getD i 0)=true):Srt b (bubble p k (k-m)) (k+1):=by
 have t:k<p.size:=by rw[A.size];exact l
 have e:∀i,(bubble p k (k-m)).getD i 0=p.getD (if i=m then k else if m<i/\i<=k then i-1 else i) 0:=λi=>by
  refine gd? ?_;rw[getElem?_bubble t (k-m) vB,show k-(k-m)=m by omega];by_cases q:i=m
  ·rw[if_pos q,if_pos q]
  ·rw[if_neg q,if_neg q];by_cases g:m<i/\i<=k
   ·rw[if_pos g,if_pos g]
   ·rw[if_neg g,if_neg g]
 intro i j u w;rw[e,e];by_cases n:i=m
 ·rw[if_pos n,if_neg vB,if_pos vB];exact s _ vB vB
 ·rw[if_neg n];by_cases d:m<i/\i<=k
  ·rw[if_pos d,if_neg vB,if_pos vB];exact h _ _ vB vB
  ·rw[if_neg d];by_cases o:j=m
   ·rw[if_pos o];exact O.not A l vB vB (r i vB)
   ·rw[if_neg o];by_cases f:m<j/\j<=k
    ·rw[if_pos f];exact h _ _ vB vB
    ·rw[if_neg f];exact h _ _ vB vB
theorem yik(O:Ord N b)(g:zri N b s cmp):∀(f k:Nat) (p:Array Nat) (G:Array Nat->Shared->Prop),Arr N p->k+f=N->Srt b p k->(∀q,Arr N q->Srt b q N->G q s)->(kas_bin f p k).kasWp cmp G s
 |0,k,p,G,A,h,d,e=>by
  have:k=N:=by omega
  subst this;exact e p A d
 |f+1,k,p,G,A,h,d,e=>by
  unfold kas_bin;rw[KasT.kasWp_bind];refine zln g O A vB d k 0 k _ (Yr _) (Zl _) vB (λi j=>by omega) (λi j l=>by omega) λm n o r=>?_;exact yik O g f (k+1) _ G (A.perm (bubble_perm _ _ _)) vB (yog O A vB n d o r) e
def yjm(O:Ord N b)(d:zri N b s cmp)(i:1<=N){G:Array Nat->Shared->Prop}(h:∀q,Arr N q->Srt b q N->G q s):(kas_sort N).kasWp cmp G s:=by
 unfold kas_sort;rw[KasT.kasWp_bind];refine yfj d O (Gk _) i λm q f j l g=>?_;dsimp only;by_cases e:m<N
 ·rw[if_pos e,show max m 1=m by omega];exact yik O d (N-m) m q G f vB g h
 ·rw[if_neg e];have:m=N:=by omega
  subst this;exact h q f g
end
end
end DL
namespace DL
open PySem PySem.W PyProof.Rows
def ltK:List Int->List Int->Bool
 |[a,b],[c,d]=>decide (a<c) || (decide (a=c) && decide (b<d))
 |_,_=>false
def isPr:List Int->Bool
 |[_,_]=>true
 |_=>false
theorem yhm:∀x y z,ltK x y=true->ltK y z=true->ltK x z=true
 |[a,b],[c,d],[e,f],g,h=>by
  simp only[ltK,Jw,Zk,decide_eq_true_eq] at g h |-;omega
theorem zlr:∀x y,ltK x y=true->ltK y x=true->False
 |[a,b],[c,d],e,f=>by
  simp only[ltK,Jw,Zk,decide_eq_true_eq] at e f;omega
theorem zyj:∀x y,isPr x=true->isPr y=true->x≠y->ltK x y=true\/ltK y x=true
 |[a,b],[c,d],_,_,h=>by
  simp only[ltK,Jw,Zk,decide_eq_true_eq];have:¬(a=c/\b=d):=λ⟨e,f⟩=>h (by rw[e,f])
  omega
def zlm{d:Program}{w:World}{a b:Int}{f:List Value}(h:ItemsAre (intKind d w) [a,b] f):∃t u,f=[.int a t,.int b u]:=by
 cases h with
 |cons g e=>
  cases e with
  |cons e i=>
   cases i;obtain⟨t,j⟩:=Up g
   obtain⟨u,l⟩:=Up e
   exact⟨t,u,by rw[j,l]⟩
def ydh{d:Type}{R:d->d->Prop}{l:List d}(h:l.length<2):l.Pairwise R:=by
 cases l with
 |nil=>exact List.Pairwise.nil
 |cons x r=>
  cases r with
  |nil=>exact Wk _ _
  |cons y r=>rw[Zv,Zv] at h;omega
section
variable{prog:Program}{w:World}{A:Around}{E:Value->Shared->Prop}{s:Shared}
def lt_pr{k l:List Int}{x y:Addr}{Q:Bool->Shared->Prop}(o:isPr k=true)(p:isPr l=true)(f:IsTK prog w s.heap k x)(g:IsTK prog w s.heap l y)(h:Q (ltK k l) s):wpAny (model prog w) A (keyLt' (tuples' true) (.ref x) (.ref y)) Q E s:=by
 match k,o,l,p,f,g,h with
 |[a,b],_,[c,d],_,f,g,h=>
  obtain⟨I,q,n,r,_,v,z⟩:=f
  obtain⟨J,B,m,C,_,D,F⟩:=g
  obtain⟨t,u,ex⟩:=zlm z
  obtain⟨K,L,j⟩:=zlm F
  have G:q.size=2:=by rw[<-Qp,ex];rfl
  have H:B.size=2:=by rw[<-Qp,j];rfl
  refine kat_lt r v C D ?_;rw[ex,j,G,H];refine kat_cons (Vr ?_);by_cases e:a=c
  ·rw[show(a == c)=true by simpa using e];refine kat_yes (kat_cons (Vr ?_));by_cases i:b=d
   ·rw[show(b == d)=true by simpa using i];refine kat_yes (kat_nil ?_);have:ltK [a,b] [c,d]=decide (2<2):=by subst e;subst i;simp[ltK]
    rw[this] at h;exact h
   ·rw[show(b == d)=false by simpa using i];refine kat_no (kat_one _ _ (lt_int ?_));have:ltK [a,b] [c,d]=decide (b<d):=by subst e;simp[ltK]
    rw[this] at h;exact h
  ·rw[show(a == c)=false by simpa using e];refine kat_no ?_;show wpAny _ _ (oneLt' true _ _) _ _ _;refine oneLt_int ?_;have:ltK [a,b] [c,d]=decide (a<c):=by simp[ltK,e]
   rw[this] at h;exact h
theorem katT:∀(f:List (List Int×Addr)),(∀x∈f,IsTK prog w s.heap x.1 x.2/\isPr x.1=true)->∃j,KatTups s.heap (f.map λx=>Value.ref x.2) j/\j.length=f.length/\∀v∈j,∃i t,v=.int i t
 |[],_=>⟨[],trivial,rfl,λv h=>by cases h⟩
 |(k,a)::f,h=>by
  obtain⟨j,q,r,z⟩:=katT f λx A=>h x (.tail _ A)
  obtain⟨l,B⟩:=h (k,a) (.head _)
  match k,B,l with
  |[c,d],_,l=>
   obtain⟨o,m,n,g,C,D,E⟩:=l
   obtain⟨t,u,e⟩:=zlm E
   refine⟨.int c t::j,KatTups.cons g C D ?_ q,by simp[r],λv p=>?_⟩
   ·have:m = #[.int c t,.int d u]:=by apply K4.mp;rw[e]
    rw[this];rfl
   ·rcases Zh.mp p with e|p
    ·exact⟨c,t,e⟩
    ·exact z v p
def yjl{a:Addr}{xs:List (List Int×Addr)}{n:Nat}{P:PySem.Fin->Shared->Prop}(N:s.heap.get? a=some (seqObj "list" (xs.map λx=>Value.ref x.2).toArray n))(G:∀x∈xs,IsTK prog w s.heap x.1 x.2/\isPr x.1=true)
 (nd:(xs.map (·.1)).Nodup)(aa:xs.length<64)
 (h:∀Z (z:List (List Int×Addr)) n',z.Perm xs->z.Pairwise (λx y=>ltK x.1 y.1=true)->Z.get? a=some (seqObj "list" (z.map λx=>Value.ref x.2).toArray n')->(∀b o,b≠a->s.heap.get? b=some o->Z.get? b=some o)->P (.done (.ret .none)) {s with heap:=Z}):
  wpAny (model prog w) A (Builtin.«list.sort» ⟨[.ref a],[]⟩) P E s:=by
 generalize I:(xs.map λx=>Value.ref x.2)=d at N;have L:d.length=xs.length:=by rw[<-I];simp
 have ha:a<s.heap.objs.size:=Zn N;have s1:=Kt s.heap a (Obj.mapSeq λ_=>(#[]:Array Value));obtain⟨e1,S⟩:∃e1,(s.heap.update a (Obj.mapSeq λ_=>(#[]:Array Value))).get? a=some (seqObj "list" #[] e1):=⟨_,get?_update_seq N λ_=>#[]⟩
 generalize hH:((s.heap.update a (Obj.mapSeq λ_=>(#[]:Array Value))).push (seqObj "tuple" d.toArray 0)).push (seqObj "list" #[] 0)=H;have l:H.get? a=some (seqObj "list" #[] e1):=by rw[<-hH];exact Zf _ (Zf _ S)
 have M:∀b o,b≠a->s.heap.get? b=some o->H.get? b=some o:=λb o X e=>by
  rw[<-hH];exact Zf _ (Zf _ ((s1.2 b X).trans e))
 have a0:∀x∈xs,x.2≠a:=λx Y e=>by
  obtain⟨⟨o,_,_,g,hc,_⟩,_⟩:=G x Y
  rw[e,N] at g;cases g;injection hc with e
  exact absurd e vA
 have f:∀x∈xs,IsTK prog w H x.1 x.2/\isPr x.1=true:=λx Y=>by
  obtain⟨⟨o,a5,m,g,r⟩,U⟩:=G x Y
  exact⟨⟨o,a5,m,M _ _ (a0 x Y) g,r⟩,U⟩
 have V:∀(B:Shared) (z:List (List Int×Addr)),B={s with heap:=H}->z.Perm xs->z.Pairwise (λx y=>ltK x.1 y.1=true)->P (.done (.ret .none)) {B with heap:=B.heap.update a (Obj.mapSeq λ_=>(z.map λx=>Value.ref x.2).toArray)}:=λB z e U hw=>by
  subst e;refine h _ z _ U hw (get?_update_seq l λ_=>(z.map λx=>Value.ref x.2).toArray) λb o X e=>?_;exact((Kt H a _).2 b X).trans (M b o X e)
 rw[list_sort_plain];refine Zd (listItems_at N rfl ?_);refine Zd (U6 N rfl ?_ (by rw[Zt,K6];omega) (Yr _));refine Zd (seqEpoch_at S rfl ?_);refine Zd (Gc ?_ (by show d.length<=_;rw[K6];omega));refine Zd (Gp ?_ (Yr _));refine Qa ?_;show wpAny (model prog w) A _ P E {s with heap:=((s.heap.update a (Obj.mapSeq λ_=>(#[]:Array Value))).push (seqObj "tuple" d.toArray 0)).push (seqObj "list" #[] 0)};rw[hH];dsimp only;by_cases D:d.toArray.size<2
 ·rw[if_pos D,if_pos D];refine Zd (Zs ?_);rw[StateT.run_pure];refine Zd (Zs ?_);dsimp only;refine Zd (seqEpoch_at l rfl ?_);refine Zd (U6 l rfl ?_ (Yr _) (by rw[Array.size_map];show(pairsOf d).size<=_;rw[pairsOf_size,K6];omega));simp only[bne_self_eq_false,Wb,if_false];have e2:(arrOf (SortSt.mk' general' (d.toArray.zip d.toArray) #[] 7 none)).map (·.2)=(xs.map λx=>Value.ref x.2).toArray:=by
   rw[I];apply K4.mp
   refine Qm λi=>?_;show(((pairsOf d).map (·.2)).toList)[i]? = _;by_cases q:i<d.length
   ·simp[pairsOf,q]
   ·simp[pairsOf,q]
  refine Zs ?_;have:=V {s with heap:=H} xs rfl (Gk _) (ydh (by
   rw[Zt,L] at D;exact D))
  rw[<-e2] at this;exact this
 ·rw[if_neg D,if_neg D];rw[Zt] at D;obtain⟨fs,kt,kl,ki⟩:=katT (s:={s with heap:=H}) xs f
  rw[I] at kt;refine Zd (kat_kind (T:=.type "int") kt vB (λv hv=>?_) rfl ?_)
  ·obtain⟨i,t,rfl⟩:=ki v hv
   exact Looks.of_pure rfl
  have a6:SortSt.mk' (tuples' true) (d.toArray.zip d.toArray) #[] 7 none=kas_st (tuples' true) (pairsOf d) (List.toArray (List.range d.length)):=by
   have e:=kas_range (pairsOf d);rw[pairsOf_size] at e;show SortSt.mk' (tuples' true) (pairsOf d) #[] 7 none=SortSt.mk' (tuples' true) ((List.toArray (List.range d.length)).map (kas_item (pairsOf d))) #[] 7 none;rw[e]
  let b:Nat->Nat->Bool:=λi j=>ltK (xs.getD i ([],0)).1 (xs.getD j ([],0)).1
  have R:∀i,i<xs.length->xs.getD i ([],0)∈xs:=λi F=>by
   rw[Zi,Zg F];exact Kf F
  have gv:∀i,i<xs.length->d.getD i Value.none=.ref (xs.getD i ([],0)).2:=λi F=>by
   rw[<-I,Zi,Zj,Zi,Zg F];rfl
  have O:Ord d.length b:=⟨λi j k=>yhm _ _ _,λi j F hj ne=>zyj _ _ (G _ (R i vB)).2 (G _ (R j vB)).2 (λe=>ne (by
   have J:i<xs.length:=by omega
   have K:j<xs.length:=by omega
   rw[Zi,Zg J,Zi,Zg K] at e;have:=(Kg (h₀:=by simpa using J) (h₁:=by simpa using K) nd).mp (by simpa using e)
   exact this)),λi j=>zlr _ _⟩
  have a7:(kas_sort d.length).kasWp (kas_cmp prog w A (tuples' true) (pairsOf d)) (λp B=>B={s with heap:=H}/\Arr d.length p/\Srt b p d.length) {s with heap:=H}:=by
   refine yjm O (λi j C F hj hC=>?_) vB λq h1 D=>⟨rfl,h1,D⟩
   unfold kas_cmp;rw[kas_item_eq,kas_item_eq,gv i vB,gv j vB];exact lt_pr (f _ (R i vB)).2 (f _ (R j vB)).2 (f _ (R i vB)).1 (f _ (R j vB)).1 hC
  have run:=kas_runs (E:=E) (Q:=λ_ u B=>∃p:Array Nat,p.size=d.length/\arrOf u=p.map (kas_item (pairsOf d))/\failedOf u=none/\B={s with heap:=H}/\Arr d.length p/\Srt b p d.length)
   vB vB (λp' u B a1 a2 a3 a4=>⟨p',a1,a2,a3,a4⟩) a7
  rw[<-a6] at run;refine Zd (Uk run ?_ λ_ _ e=>e);rintro⟨⟨⟩,u⟩ B ⟨p,U,a8,hf,rfl,hA,hS⟩
  dsimp only;have W:(arrOf u).map (·.2)=((p.toList.map λi=>xs.getD i ([],0)).map λx=>Value.ref x.2).toArray:=by
   apply K4.mp
   rw[a8,Array.map_map,Array.toList_map,Ya];refine We λi F=>?_;show(kas_item (pairsOf d) i).2=_;rw[kas_item_eq];exact gv i (by have:=Wj.mp (hA.mem_iff.mp F);omega)
  rw[W];refine Zd (seqEpoch_at l rfl ?_);refine Zd (U6 l rfl ?_ (Yr _) (by
   have:p.toList.length=d.length:=by rw[Qp,U]
   simp only[Zt,Zc,this];rw[K6];omega))
  rw[hf];simp only[bne_self_eq_false,Wb,if_false];refine Zs (V {s with heap:=H} _ rfl ?_ ?_)
  ·have e0:xs=(List.range xs.length).map λi=>xs.getD i ([],0):=by
    refine List.ext_getElem vC λi h1 D=>?_;simp[h1]
   have:=hA.map λi=>xs.getD i ([],0)
   rw[L,<-e0] at this;exact this
  ·rw[Ql,Qi];intro i j F hj a9;have J:i<p.size:=by simpa using F
   have K:j<p.size:=by simpa using hj
   have:=hS i j a9 vB
   rw[gd J,gd K] at this;rw[Qk,Qk];exact this
end
end DL
namespace DL
open PySem PySem.W PyProof.Rows
section
variable{prog:Program}{w:World}{A:Around}{E:Value->Shared->Prop}{s:Shared}
end
open PySem L2 PyProof.Rows
def insK(k:List Int):List (List Int)->List (List Int)
 |[]=>[k]
 |x::l=>if ltK k x=true then k::x::l else if k=x then x::l else x::insK k l
def ssK:List (List Int)->List (List Int)
 |[]=>[]
 |k::l=>insK k (ssK l)
abbrev SrtK(l:List (List Int)):Prop:=l.Pairwise λx y=>ltK x y=true
theorem insK_mem{k x:List Int}:∀{l:List (List Int)},x∈insK k l↔x=k\/x∈l
 |[]=>by simp[insK]
 |y::l=>by
  unfold insK;split
  ·simp
  ·split
   ·rename_i e;subst e;simp
   ·rw[Zh,insK_mem,Zh];constructor
    ·rintro(h|h|h)
     ·exact .inr (.inl h)
     ·exact .inl h
     ·exact .inr (.inr h)
    ·rintro(h|h|h)
     ·exact .inr (.inl h)
     ·exact .inl h
     ·exact .inr (.inr h)
theorem zsn{k:List Int}(g:isPr k=true):∀{l:List (List Int)},(∀x∈l,isPr x=true)->SrtK l->SrtK (insK k l)
 |[],_,_=>Wk _ _
 |y::l,h,f=>by
  obtain⟨i,j⟩:=Y5.mp f
  unfold insK;split
  ·rename_i e;refine Y5.mpr ⟨λx d=>?_,f⟩;rcases Zh.mp d with q|q
   ·rw[q];exact e
   ·exact yhm _ _ _ e (i x q)
  ·rename_i e;split
   ·exact f
   ·rename_i m;refine Y5.mpr ⟨λx d=>?_,zsn g (λx d=>h x (.tail _ d)) j⟩;rcases insK_mem.mp d with q|q
    ·rw[q];exact(zyj k y g (h y (.head _)) m).resolve_left e
    ·exact i x q
theorem ssK_mem{x:List Int}:∀{l:List (List Int)},x∈ssK l↔x∈l
 |[]=>Iff.rfl
 |k::l=>by
  unfold ssK;rw[insK_mem,ssK_mem,Zh]
theorem zpo:∀{l:List (List Int)},(∀x∈l,isPr x=true)->SrtK (ssK l)
 |[],_=>List.Pairwise.nil
 |k::l,h=>zsn (h k (.head _)) (λx d=>h x (.tail _ (ssK_mem.mp d))) (zpo λx d=>h x (.tail _ d))
theorem ygv:∀{l m:List (List Int)},SrtK l->SrtK m->(∀x,x∈l↔x∈m)->l=m
 |[],[],_,_,_=>rfl
 |[],y::m,_,_,h=>by have:=(h y).mpr (.head _);cases this
 |x::l,[],_,_,h=>by have:=(h x).mp (.head _);cases this
 |x::l,y::m,j,n,h=>by
  obtain⟨f,o⟩:=Y5.mp j
  obtain⟨g,p⟩:=Y5.mp n
  have e:x=y:=by
   rcases Zh.mp ((h x).mp (.head _)) with q|q
   ·exact q
   ·rcases Zh.mp ((h y).mpr (.head _)) with i|i
    ·exact i.symm
    ·exact(zlr _ _ (g x q) (f y i)).elim
  subst e;rw[ygv o p λz=>⟨λd=>?_,λd=>?_⟩]
  ·rcases Zh.mp ((h z).mp (.tail _ d)) with q|q
   ·subst q;exact(zlr _ _ (f z d) (f z d)).elim
   ·exact q
  ·rcases Zh.mp ((h z).mpr (.tail _ d)) with q|q
   ·subst q;exact(zlr _ _ (g z d) (g z d)).elim
   ·exact q
def keyD:D->Option (List Int)
 |.tup [.int a,.int b]=>some [a,b]
 |_=>none
def zlv:List D->Option (List (List Int))
 |[]=>some []
 |d::l=>(keyD d).bind λk=>(zlv l).map λe=>k::e
def dK(k:List Int):D:=.tup (k.map D.int)
def zyr{d:D}{k:List Int}(h:keyD d=some k):∃a b,d=.tup [.int a,.int b]/\k=[a,b]:=by
 unfold keyD at h;split at h
 ·cases h;exact⟨_,_,rfl,rfl⟩
 ·cases h
section
variable{X:Cx}{e:Expr}{es:List Expr}{ρ:Rho}{pos:Pos}{w:W}
theorem zsy{K:vE}{F:Hp}:∀{l:List D}{j:List V}{i:List (List Int)},DenL K F l j->zlv l=some i->∃f:List (List Int×Addr),j=f.map (λz=>V.ref z.2)/\f.map (·.1)=i/\∀z∈f,SqT K F z.2 (z.1.map V.int)/\isPr z.1=true
 |[],_,_,h,e=>by
  cases e;exact⟨[],h.inv_nil,rfl,λz g=>by cases g⟩
 |d::l,_,_,h,e=>by
  unfold zlv at e;obtain⟨k,n,o⟩:=Za.mp e
  obtain⟨i,p,s⟩:=Zb.mp o
  subst s;obtain⟨a,b,ed,u⟩:=zyr n
  obtain⟨v,J,ev,q,r⟩:=h.inv_cons
  obtain⟨f,w,A,B⟩:=zsy r p
  rw[ed] at q;obtain⟨t,L,C,m,E⟩:=q.tup
  obtain⟨M,N,G,H,I⟩:=E.two
  rw[G,H.int,I.int] at m;refine⟨(k,t)::f,by rw[ev,C,w];rfl,by rw[<-A];rfl,λz g=>?_⟩
  rcases Zh.mp g with e|g
  ·subst e;rw[u];exact⟨m,rfl⟩
  ·exact B z g
theorem zmz:∀{d:List (List Int×Addr)}{e:List Value},Vals (d.map λz=>V.ref z.2) e->e=d.map λz=>Value.ref z.2
 |[],_,h=>by cases h;rfl
 |z::d,_,h=>by
  cases h with
  |cons f g=>rw[show _=Value.ref z.2 from f,zmz g];rfl
theorem zvp:∀(d:List (List Int×Addr)),Vals (d.map λz=>V.ref z.2) (d.map λz=>Value.ref z.2)
 |[]=>.nil
 |z::d=>.cons rfl (zvp d)
theorem zrn{d:Program}{w:World}:∀{k:List Int}{f:List Value},Vals (k.map V.int) f->ItemsAre (intKind d w) k f
 |[],_,h=>by cases h;exact .nil
 |i::k,_,h=>by
  cases h with
  |cons g j=>
   obtain⟨t,e⟩:=g
   subst e;exact .cons (by show Value.isInt i (.int i t)=true;simp[Value.isInt]) (zrn j)
def Inv.tk{pins σ H s}{z:List Int×Addr}(I:Inv X pins σ H s)(h:SqT X.K H z.2 (z.1.map V.int)):IsTK X.prog X.w s.heap z.1 z.2:=by
 obtain⟨d,r,⟨o,e,f,n,g⟩,_⟩:=I.tuple h
 exact⟨o,d.toArray,n,e,f,g,zrn r⟩
end
open PySem L2 PyProof.Rows
section
variable{prog:Program}{w:World}{A:Around}{E:Value->Shared->Prop}{s:Shared}
end
section
variable{X:Cx}{e:Expr}{es:List Expr}{ρ:Rho}{pos:Pos}{w:W}
def ydn{x y:Str}{p G o:Pos}{f g:String}{t:TA}{r:List V->Hp->VK->Prop}(J:∀d s i H j n Q,Inv X d i H s->Vals j n->r j H Q->wpAny (model X.prog X.w) X.A (call (.type g) n) (λm q=>wpAny (model X.prog X.w) X.A (call (.type f) [m]) (EP X d i Q) X.xe q) X.xe s)
 (K:Gl X x)(u:X.mg x=none)(L:bootBuiltins x=some (.type f))(M:x ≠ "__name__")(v:(x == ("__debug__" : Str))=false)(z:Gl X y)(B:X.mg y=none)(C:bootBuiltins y=some (.type g))(D:y ≠ "__name__")(l:(y == ("__debug__" : Str))=false)(N:PA X (e::es) t)(O:Bm e=true)(E:es.all Bm=true):
  PE X (.Call (.Name x p) [.Call (.Name y G) (e::es) [] o] [] pos) (λi H Q=>t i H λj F=>r j F Q):=by
 intro d s i H Q I h;refine Q4 (zgn I K u L ?_ M v);refine Y4 ?_;show wpAny _ _ (spliced ((false,eval (.Call (.Name y G) (e::es) [] o) X.env)::backTo pos (starEach [] X.env))) _ _ s;refine Gm ?_;refine Q4 (zgn I z B C ?_ D l);refine Y4 (thn (N o d s i H _ I h) λn q ⟨j,F,P,R,S⟩=>?_) (Bu O) (zdm E);exact thn (J d q i F j n Q P R S) λm T u=>Gx u
def yin(X:Cx)(f g:Value)(q:List D)(w:W):Prop:=∃r:List V->Hp->VK->Prop,(∀d s e H h n Q,Inv X d e H s->Vals h n->r h H Q->wpAny (model X.prog X.w) X.A (call g n) (λm t=>wpAny (model X.prog X.w) X.A (call f [m]) (EP X d e Q) X.xe t) X.xe s) /\
 ∀(i o H F:Hp) (e:L2.St) (ρ:Rho) (h:List V) (Q:VK),ER X.K i o F H e ρ->DenL X.K F q h->(∀p j l,Same F l->ER X.K i o l j e ρ->RW X.K i l j w p->Q p j)->r h H Q
def DE.nestT{x y:Str}{p t u:Pos}{f g:String}{o:List D}(v:yin X (.type f) (.type g) o w)(z:Gl X x)(A:X.mg x=none)(B:bootBuiltins x=some (.type f))(C:x ≠ "__name__")(h:(x == ("__debug__" : Str))=false)(i:Gl X y)(j:X.mg y=none)(l:bootBuiltins y=some (.type g))(m:y ≠ "__name__")(d:(y == ("__debug__" : Str))=false)
 (E:DA X (e::es) ρ o)(G:Bm e=true)(n:es.all Bm=true):DE X (.Call (.Name x p) [.Call (.Name y t) (e::es) [] u] [] pos) ρ w:=λq s=>by
 obtain⟨r,I,J⟩:=v
 refine PE.mono (ydn I z A B C h i j l m d (E q s) G n) λK H Q ⟨F,R,k⟩=>⟨F,R,λL M N O P S=>?_⟩
 exact J q s M N K ρ L Q P S λT U V W Y Z=>k T U V (O.trans W) Y Z
theorem DenL.rev{K:vE}{F:Hp}:∀{l:List D}{f:List V},DenL K F l f->DenL K F l.reverse f.reverse
 |[],_,h=>by rw[h.inv_nil];exact DenL.nil
 |d::l,_,h=>by
  obtain⟨v,g,e,q,r⟩:=h.inv_cons
  subst e;rw[G6,G6];exact(DenL.rev r).append (DenL.cons q DenL.nil)
def yaq{l:List D}:zha X (.type "tuple") [.lst l] (.val (.tup l)):=⟨_,zml,λj m H F n ρ o Q R q k=>by
 obtain⟨v,e,q⟩:=q.one
 obtain⟨p,d,g,h,r⟩:=q.lst
 rw[g] at e;refine⟨p,d,e,.inl ⟨R.sub.seq h,λs i=>?_⟩⟩
 obtain⟨R2,f⟩:=R.lay (.tup d) i
 exact k _ _ _ f R2 (RW.v (Den.tup_mk (SqT.of Bs) (r.mono f)))⟩
end
open PySem L2 PyProof.Rows
section
variable{prog:Program}{w:World}{A:Around}{E:Value->Shared->Prop}{s:Shared}
abbrev IsZ2(h:Heap)(z TI TO T:Addr)(d:Bool):Prop:=
 h.get? z=some {cls:=.type "zip",dict:=none,data:=.fields #[rawInt T,.bool d,.bool false,.ref TI,.ref TO],slots:=#[]}
def yer{a:Addr}{Q:Option Obj->Shared->Prop}(h:Q (s.heap.get? a) s):wpAny (model prog w) A (loadIfAlive a) Q E s:=λ_ _ _=>h
def zsd{z TI TO T:Addr}{g:Bool}{Q:Bool->Shared->Prop}(f:IsZ2 s.heap z TI TO T g)(l:∃o,s.heap.get? T=some o)(h:∀i,IsZ2 i z TI TO T true->Heap.SameBut z s.heap i->Q false {s with heap:=i}):
  wpAny (model prog w) A (Builtin.SmallTypes.ownedTupleIsFree (.ref z)) Q E s:=by
 obtain⟨o,m⟩:=l
 unfold Builtin.SmallTypes.ownedTupleIsFree;refine Zd (Wd f rfl (x:=rawInt T) rfl ?_);show wpAny _ _ (loadIfAlive ((T:Int)).toNat >>= _) _ _ _;rw[Z8];refine Zd (yer ?_);rw[m];simp only[Option.isNone_some,Wb,if_false];refine Zd (Wd f rfl (x:=.bool g) rfl ?_);cases g with
 |true=>
  exact Zd (Zs (Zs (h _ f ⟨rfl,λ_ _=>rfl⟩)))
 |false=>
  refine Zd (Q3 f vC λj d e=>?_);exact Zs (h _ d e)
structure ZA(z TI i1 i2 l1 l2:Addr):Prop where
 TIz:TI≠z
 i1z:i1≠z
 i2z:i2≠z
 TIi1:TI≠i1
 TIi2:TI≠i2
 i12:i1≠i2
 l1z:l1≠z
 l1i1:l1≠i1
 l1i2:l1≠i2
 l2z:l2≠z
 l2i1:l2≠i1
 l2i2:l2≠i2
def zvg{z TI TO T j l l1 l2:Addr}{S:Bool}{B C:Nat}{M N:Array Value}{x y:Value}{Q:Option Value->Shared->Prop}(D:ZA z TI j l l1 l2)(v:IsZ2 s.heap z TI TO T S)(U:∃o,s.heap.get? T=some o)(F:IsPair s.heap TI (.ref j) (.ref l))
 (V:s.heap.IsListIter j l1 B)(W:s.heap.IsListIter l l2 C)(G:s.heap.IsList l1 M)(H:s.heap.IsList l2 N)(X:M[B]? = some x)(Y:N[C]? = some y)
 (Z:∀m,IsZ2 m z TI TO T true->m.IsListIter j l1 (B+1)->m.IsListIter l l2 (C+1)->IsPair m s.heap.objs.size x y->m.objs.size=s.heap.objs.size+1 ->
   (∀c o,c≠z->c≠j->c≠l->s.heap.get? c=some o->m.get? c=some o)->Q (some (.ref s.heap.objs.size)) {s with heap:=m}):
  wpAny (model prog w) A (pyNext (.ref z)) Q E s:=by
 have u:s.TypeIs (.ref z) "zip" := ⟨_,v,rfl⟩;unfold pyNext;refine Zd (U5 (wpAny_callSpecial?_slot (name:=Str.ofString "__next__") u Qo (Q0 Qo u Jv ?_ (Jr _))));show wpAny _ _ (field (.ref z) 2 >>= _) _ _ _;refine Zd (Wd v rfl (x:=.bool false) rfl ?_);show wpAny _ _ (field (.ref z) 3 >>= _) _ _ _;refine Zd (Wd v rfl (x:=.ref TI) rfl ?_);refine Zd (Wo F rfl ?_);show wpAny _ _ (Builtin.SmallTypes.ownedTupleIsFree (.ref z) >>= _) _ _ _;refine Zd (zsd v U λO n d=>?_);simp only[Wb,if_false];refine Zd ?_;rw[<-Gn];simp only[K9,Ud];refine Zd (Zd (Qa ?_));show wpAny _ _ (Builtin.SmallTypes.nextOf (.ref j) >>= _) _ _ _;refine Zd (Ub (V.extBut d.extBut D.i1z) (G.extBut d.extBut D.l1z) X λP p h=>Zs (Zs ?_));refine Zd (Zd (Qa ?_));show wpAny _ _ (Builtin.SmallTypes.nextOf (.ref l) >>= _) _ _ _;refine Zd (Ub ((W.extBut d.extBut D.i2z).extBut h.extBut D.i12.symm) ((H.extBut d.extBut D.l2z).extBut h.extBut D.l2i1) Y λf q i=>Zs (Zs (Zs ?_)));refine Zd (Gc ?_ (by show 2<=sizeLine;decide));have I:f.objs.size=s.heap.objs.size:=by rw[i.1,h.1,d.1]
 have kp:∀c o,c≠z->c≠j->c≠l->s.heap.get? c=some o->f.get? c=some o:=λc o J K L e=>i.extBut _ _ L (h.extBut _ _ K (d.extBut _ _ J e))
 have r:IsZ2 f z TI TO T true:=i.extBut _ _ D.i2z.symm (h.extBut _ _ D.i1z.symm n);have t:=p.extBut i.extBut D.i12;refine Zs ⟨_,rfl,Zs ?_⟩;show Q (some (.ref f.objs.size)) _;have g:(f.push {cls:=.type "tuple",data:=.seq #[x,y]}).get? f.objs.size=some {cls:=.type "tuple",data:=.seq #[x,y]}:=Zy _ rfl;have R:(f.push {cls:=.type "tuple",data:=.seq #[x,y]}).objs.size=f.objs.size+1:=Qw ..;rw[I] at g R |-;exact Z _ (Zf _ r) (t.at λo e=>Zf _ e) (q.at λo e=>Zf _ e) g R λc o J K L e=>Zf _ (kp c o J K L e)
def ybp{z TI TO T g i l1 l2:Addr}{B:Bool}{p C:Nat}{q F:Array Value}{Q:Option Value->Shared->Prop}(r:A.handled=none)(D:ZA z TI g i l1 l2)(j:IsZ2 s.heap z TI TO T B)(G:∃o,s.heap.get? T=some o)(l:IsPair s.heap TI (.ref g) (.ref i))
 (H:s.heap.IsListIter g l1 p)(R:s.heap.IsListIter i l2 C)(m:s.heap.IsList l1 q)(I:s.heap.IsList l2 F)(J:q[p]? = none)
 (K:∀t,(∀c o,c≠z->c≠g->c≠i->s.heap.get? c=some o->t.get? c=some o)->Q none {s with heap:=t}):wpAny (model prog w) A (pyNext (.ref z)) Q E s:=by
 have h:s.TypeIs (.ref z) "zip" := ⟨_,j,rfl⟩;unfold pyNext;refine Zd (U5 (wpAny_callSpecial?_slot (name:=Str.ofString "__next__") h Qo (Q0 Qo h Jv ?_ (Jr _))));show wpAny _ _ (field (.ref z) 2 >>= _) _ _ _;refine Zd (Wd j rfl (x:=.bool false) rfl ?_);show wpAny _ _ (field (.ref z) 3 >>= _) _ _ _;refine Zd (Wd j rfl (x:=.ref TI) rfl ?_);refine Zd (Wo l rfl ?_);show wpAny _ _ (Builtin.SmallTypes.ownedTupleIsFree (.ref z) >>= _) _ _ _;refine Zd (zsd j G λu n d=>?_);simp only[Wb,if_false];refine Zd ?_;rw[<-Gn];simp only[K9,Ud];refine Zd (Zd (Qa ?_));show wpAny _ _ (Builtin.SmallTypes.nextOf (.ref g) >>= _) _ _ _;refine Zd (G9 (by first|exact r|simp[r]) (H.extBut d.extBut D.i1z) (m.extBut d.extBut D.l1z) J λv e f L=>?_);obtain⟨o,M,N⟩:=L
 refine Zd (wpAny_isInstance (T := "StopIteration") (b:=true) ⟨o,M,N⟩ isSubtype_stop ?_);exact Zs (K _ λc o O P S e=>f _ _ P (d.extBut _ _ O e))
def zrj(h:Heap)(d e:Array Value)(f:List Addr):Prop:=∀(j:Nat) (t:Addr),f[j]? = some t->∃x y,d[j]? = some x/\e[j]? = some y/\IsPair h t x y
def ybo{R:Result->Shared->Prop}{S z TI TO u v l1 l2:Addr}{m O:Array Value}(res:Value)(hh:A.in1.handled=none)(D:ZA z TI u v l1 l2)(a8:m.size=O.size)(hz:m.size<=sizeLine)(hS:∀b∈[z,TI,TO,u,v,l1,l2],S≠b):
  ∀(k i:Nat) (s:Shared) (d:Array Value) (c:Nat) (g:List Addr) (T:Addr) (f1:Bool),m.size-i=k->i<=m.size->IsZ2 s.heap z TI TO T f1->T∈g->IsPair s.heap TI (.ref u) (.ref v)->s.heap.IsListIter u l1 i->s.heap.IsListIter v l2 i->s.heap.IsList l1 m->s.heap.IsList l2 O ->
   s.heap.get? S=some {cls:=.type "list",dict:=none,data:=.seq d c,slots:=#[]}->d.toList=g.map Value.ref->g.length=i->zrj s.heap m O g->(∀t∈g,t≠z/\t≠u/\t≠v/\t≠S)->g.Nodup ->
   (∀p tk h c' f,(∀b o,b≠S->b≠z->b≠u->b≠v->s.heap.get? b=some o->p.get? b=some o)->p.get? S=some {cls:=.type "list",dict:=none,data:=.seq h c',slots:=#[]}->h.toList=f.map Value.ref->f.length=m.size->zrj p m O f->(∀t∈f,t∈g\/s.heap.objs.size<=t)->f.Nodup->R (.ok (.ret res)) {s with heap:=p,toks:=tk}) ->
   codeAny (model prog w) A (.builtin "list.extend.loop" ⟨[.ref S,.ref z,res],[]⟩) R s:=by
 intro k;have sz:S≠z:=hS z vC;have s1:S≠u:=hS u vC;have s2:S≠v:=hS v vC;have sT:S≠TI:=hS TI vC;have sl1:S≠l1:=hS l1 vC;have sl2:S≠l2:=hS l2 vC;induction k with
 |zero=>
  intro i s d c g T f1 hk hi Y Z B h1 h2 C E F G l P H L hR;have e:i=m.size:=by omega
  subst e;refine Kv Uu ?_;rw[Qj Qx _];show wpAny _ A.in1 (pyNext (.ref z) >>= _) _ _ s;have aT:∃o,s.heap.get? T=some o:=by
   obtain⟨j,Q⟩:=W6 Z
   obtain⟨x,y,_,_,e⟩:=P j T Q
   exact⟨_,e⟩
  refine Zd (ybp hh D Y aT B h1 h2 C E vC λp r=>?_);exact Zs (hR p s.toks d c g (λb o _ b2 b3 b4 e=>r b o b2 b3 b4 e) (r S _ sz s1 s2 F) G l (λj t e=>by
   obtain⟨x,y,U,V,M⟩:=P j t e
   obtain⟨t1,t2,t3,_⟩:=H t (Yq e)
   exact⟨x,y,U,V,r t _ t1 t2 t3 M⟩) (λt I=>.inl I) L)
 |succ k ih=>
  intro i s d c g T f1 hk hi Y Z B h1 h2 C E F G l P H L hR;have N:i<m.size:=by omega
  refine Kv Uu ?_;rw[Qj Qx _];show wpAny _ A.in1 (pyNext (.ref z) >>= _) _ _ s;have aT:∃o,s.heap.get? T=some o:=by
   obtain⟨j,Q⟩:=W6 Z
   obtain⟨x,y,_,_,e⟩:=P j T Q
   exact⟨_,e⟩
  have hx:m[i]? = some (m[i]'N):=Qh N;have hy:O[i]? = some (O[i]'vB):=Qh vB;refine Zd (zvg D Y aT B h1 h2 C E hx hy λp a1 a2 a3 a4 a5 r=>?_);have W:=r S _ sz s1 s2 F;have X:d.size=i:=by
   have:=congrArg List.length G
   rw[Qp,Zc,l] at this;exact this
  have K:S<s.heap.objs.size:=Zn F;show wpAny _ A.in1 (updateSeq S (·.push (.ref s.heap.objs.size)) >>= _) _ _ _;have up:∀b o,b≠S->p.get? b=some o->(p.update S (Obj.mapSeq (·.push (.ref s.heap.objs.size)))).get? b=some o:=λb o hb e=>(Yp _ _ (W5 hb)).trans e
  have J:∀{b o},s.heap.get? b=some o->b≠s.heap.objs.size:=λe=>Yh (Zn e)
  refine Zd ?_;refine Q7 W rfl (Zs ⟨Ku Qx _,ih (i+1) _ (d.push (.ref s.heap.objs.size)) _ (g++[s.heap.objs.size]) T true vB N (up z _ (W5 sz) a1) (Q5 _ Z) (up TI _ (W5 sT) (r TI _ D.TIz D.TIi1 D.TIi2 B)) (a2.at λo e=>up u o (W5 s1) e) (a3.at λo e=>up v o (W5 s2) e)
   (C.at λo e=>up l1 o (W5 sl1) (r l1 o D.l1z D.l1i1 D.l1i2 e)) (E.at λo e=>up l2 o (W5 sl2) (r l2 o D.l2z D.l2i1 D.l2i2 e)) (Wv _ W rfl) ?_ (by rw[Yc,l];rfl) ?_ ?_ ?_ ?_⟩) (by rw[X];omega) (by show(d.push _).size<=sizeLine+1;rw[Array.size_push,X];omega)
  ·rw[Array.toList_push,G,Y7];rfl
  ·intro j t e;rcases Yd j g.length with q|q
   ·rw[Yt q] at e;obtain⟨x,y,U,V,M⟩:=P j t e
    obtain⟨t1,t2,t3,t4⟩:=H t (Yq e)
    exact⟨x,y,U,V,up t _ t4 (r t _ t1 t2 t3 M)⟩
   ·rw[Yg q] at e;have e0:j-g.length=0:=by
     cases q2:j-g.length with
     |zero=>rfl
     |succ n=>rw[q2] at e;simp at e
    rw[e0] at e;simp at e
    subst e;have ej:j=i:=by omega
    subst ej;exact⟨_,_,hx,hy,up _ _ (Yb K) a4⟩
  ·intro t I;rcases Y0.mp I with I|I
   ·exact H t I
   ·rw[Z0.mp I];refine⟨(J Y).symm,?_,?_,(Yb K)⟩
    ·obtain⟨_,e,_⟩:=h1;exact(J e).symm
    ·obtain⟨_,e,_⟩:=h2;exact(J e).symm
  ·refine G7.mpr ⟨L,Wk _ _,λa ha b hb e=>?_⟩;rw[Z0.mp hb] at e;obtain⟨j,Q⟩:=W6 ha
   obtain⟨x,y,_,_,M⟩:=P j a Q
   exact J M e
  ·intro a0 tk h c' f a6 U V M e4 e5 e6;have a7:(p.update S (Obj.mapSeq (·.push (.ref s.heap.objs.size)))).objs.size=s.heap.objs.size+1:=by rw[Kh,a5]
   refine hR a0 tk h c' f (λb o b1 b2 b3 b4 e=>a6 b o b1 b2 b3 b4 (up b o b1 (r b o b2 b3 b4 e))) U V M e4 (λt I=>?_) e6;rcases e5 t I with q|q
   ·rcases Y0.mp q with q|q
    ·exact .inl q
    ·exact .inr (by rw[Z0.mp q];exact Zl _)
   ·exact .inr (by
     have q':(p.update S (Obj.mapSeq (·.push (.ref s.heap.objs.size)))).objs.size<=t:=q;rw[a7] at q';exact Nat.le_of_succ_le q')
def ztm:typeLookup (.type "zip") "__len__" = pure none:=by rw[typeLookup_type,Bb];kernel_rfl
def zpe:typeLookup (.type "zip") "__length_hint__" = pure none:=by rw[typeLookup_type,Bb];kernel_rfl
def ane{a b:Nat}(h:a≠b):@Ne Addr a b:=h
def za_of{n l1 l2:Nat}(d:l1<n)(e:l2<n):ZA (n+4) (n+2) n (n+1) l1 l2:=by
 refine⟨?_,?_,?_,?_,?_,?_,?_,?_,?_,?_,?_,?_⟩<;>exact ane vB
def ygq{n l1 l2:Nat}(d:l1<n)(e:l2<n):ZipApart (n+4) (n+2) (n+3) n (n+1) l1 l2:=by
 refine⟨?_,?_,?_,?_,?_,?_,?_,?_,?_,?_,?_,?_,?_,?_,?_,?_,?_,?_⟩<;>exact ane vB
def zmm{z TI TO C G l1 l2:Addr}{r V:Array Value}{Q:Value->Shared->Prop}(hh:A.handled=none)(D:ZA z TI C G l1 l2)(g:ZipApart z TI TO C G l1 l2)(af:r.size=V.size)(hz:r.size<=sizeLine)
 (hZ:IsZip s.heap z TI TO .none)(W:IsPair s.heap TI (.ref C) (.ref G))(X:IsPair s.heap TO .none .none)(h1:s.heap.IsListIter C l1 0)(h2:s.heap.IsListIter G l2 0)(Y:s.heap.IsList l1 r)(Z:s.heap.IsList l2 V)
 (hQ:∀i tk a0 c ts,(∀b o,b≠z->b≠TO->b≠C->b≠G->s.heap.get? b=some o->i.get? b=some o)->i.get? s.heap.objs.size=some {cls:=.type "list",dict:=none,data:=.seq a0 c,slots:=#[]}->a0.toList=ts.map Value.ref->ts.length=r.size->zrj i r V ts->(∀t∈ts,s.heap.objs.size<t)->ts.Nodup->Q (.ref s.heap.objs.size) {s with heap:=i,toks:=tk}):
  wpAny (model prog w) A (call (.type "list") [.ref z]) Q E s:=by
 have f:∀{b o},s.heap.get? b=some o->b<s.heap.objs.size:=λe=>Zn e
 have v:=f hZ;have K:=f W;have B:=f X;have l:C<s.heap.objs.size:=by obtain⟨_,e,_⟩:=h1;exact f e
 have m:G<s.heap.objs.size:=by obtain⟨_,e,_⟩:=h2;exact f e
 have L:l1<s.heap.objs.size:=by obtain⟨_,e,_⟩:=Y;exact f e
 have M:l2<s.heap.objs.size:=by obtain⟨_,e,_⟩:=Z;exact f e
 refine callType_codes (Q₁:=λa7 H=>a7=.ref s.heap.objs.size/\H={s with heap:=s.heap.push {cls:=.type "list",data:=.seq #[]} }) F.called_list (F.typeCall_list_1 _) F.entry_list_init
  (code_list_new _ ⟨rfl,rfl⟩) λa7 H a8=>?_
 obtain⟨rfl,rfl⟩:=a8
 have hS:(s.heap.push {cls:=.type "list",data:=.seq #[]}).get? s.heap.objs.size=some {cls:=.type "list",data:=.seq #[]}:=Zy _ rfl;refine⟨⟨_,hS,rfl⟩,F.args_list_init_2 _ _,?_⟩
 show wpAny _ A.in1.in1 (do let f <-Builtin.List.listItems (.ref s.heap.objs.size);Builtin.List.listUpdate (.ref s.heap.objs.size) (λ_=>#[]);letGo f.toList.reverse;Builtin.List.listExtendWith (.ref s.heap.objs.size) (.ref z) .none) _ _ _;refine Zd (listItems_at hS rfl ?_);refine Zd (U6 hS rfl ?_ (Yr _) (Yr _));have n:=Wv (Obj.mapSeq (λ_=>(#[]:Array Value))) hS rfl;have a9:((s.heap.push {cls:=.type "list",data:=.seq #[]}).update s.heap.objs.size (Obj.mapSeq (λ_=>(#[]:Array Value)))).objs.size=s.heap.objs.size+1:=by rw[Kh,Qw]
 have N:∀b o,b<s.heap.objs.size->s.heap.get? b=some o->((s.heap.push {cls:=.type "list",data:=.seq #[]}).update s.heap.objs.size (Obj.mapSeq (λ_=>(#[]:Array Value)))).get? b=some o:=
  λb o u e=>(Yp _ _ (Yb u)).trans (Zf _ e)
 refine Zd (Jh ?_);generalize aj:(s.heap.push {cls:=.type "list",data:=.seq #[]}).update s.heap.objs.size (Obj.mapSeq (λ_=>(#[]:Array Value)))=H1 at *;unfold Builtin.List.listExtendWith;have O:Shared.TypeIs {s with heap:=H1} (.ref z) "zip" := ⟨_,N z _ v hZ,rfl⟩;refine Zd (wpAny_typeOf O ?_);have n1:Builtin.List.listSameRef (.ref s.heap.objs.size) (.ref z)=false:=by simp[Builtin.List.listSameRef,Yb v]
 rw[if_neg (by rw[n1];decide)];refine Zd (Vq (N z _ v hZ) ?_);refine Zd (Qa ?_);unfold Builtin.List.listLengthHint;refine Zd (wpAny_specialOf O ztm ?_);show wpAny _ _ (specialOf (Value.ref z) (Str.ofString "__length_hint__") >>= _) _ _ _;refine Zd (wpAny_specialOf O zpe ?_);refine Zs ?_;show wpAny _ _ (rule "list.extend.makes-room" >>= λ_=>Builtin.List.listTouch (.ref s.heap.objs.size) >>= λ_=>again (.builtin "list.extend.loop" ⟨[.ref s.heap.objs.size,.ref z,.none],[]⟩)) _ _ _;refine Zd (Js ?_);refine Zd ?_;show wpAny _ _ (updateSeq s.heap.objs.size (·.push .none) >>= λ_=>updateSeq s.heap.objs.size (·.pop)) _ _ _;refine Zd (Q7 n rfl ?_);have p:=Wv (Obj.mapSeq (·.push Value.none)) n rfl;refine Q7 (hz:=by seq_fits) p rfl ?_;have P:=Wv (Obj.mapSeq (·.pop)) p rfl;have d:∀b o,b<s.heap.objs.size->s.heap.get? b=some o->((H1.update s.heap.objs.size (Obj.mapSeq (·.push Value.none))).update s.heap.objs.size (Obj.mapSeq (·.pop))).get? b=some o:=
  λb o u e=>(Yp _ _ (Yb u)).trans ((Yp _ _ (Yb u)).trans (N b o u e))
 have aa:((H1.update s.heap.objs.size (Obj.mapSeq (·.push Value.none))).update s.heap.objs.size (Obj.mapSeq (·.pop))).objs.size=s.heap.objs.size+1:=by rw[Kh,Kh];exact a9
 generalize ak:(H1.update s.heap.objs.size (Obj.mapSeq (·.push Value.none))).update s.heap.objs.size (Obj.mapSeq (·.pop))=H2 at *;have S0:∃c0,H2.get? s.heap.objs.size=some {cls:=.type "list",dict:=none,data:=.seq #[] c0,slots:=#[]}:=⟨_,P⟩;obtain⟨c0,S0⟩:=S0
 have z2:=d z _ v hZ;have R:=d TI _ K W;have ab:=d TO _ B X;have g1:=h1.at λo e=>d C o l e
 have g2:=h2.at λo e=>d G o m e
 have S:=Y.at λo e=>d l1 o L e
 have T:=Z.at λo e=>d l2 o M e
 refine Zs ⟨Ku Qx _,Kv Uu ?_⟩;rw[Qj Qx _];show wpAny _ _ (pyNext (.ref z) >>= _) _ _ _;rcases Qz r.size with U|U
 ·refine Zd (wpAny_pyNext_zip_end (by simp[hh]) g z2 R ab g1 g2 S T (.inl (by simp[U])) λi I=>?_);exact Zs ⟨rfl,hQ i s.toks #[] c0 [] (λb o b1 b2 b3 b4 e=>I b o b1 b2 b3 b4 (d b o (f e) e)) (I _ _ (Yb v) (Yb B) (Yb l) (Yb m) S0) rfl (by rw[U];rfl) (λj t e=>by simp at e) (λt ht=>by cases ht) List.nodup_nil⟩
 ·have hx:r[0]? = some (r[0]'U):=Qh U;have hy:V[0]? = some (V[0]'vB):=Qh vB;refine Zd (wpAny_pyNext_zip_item g z2 R ab g1 g2 S T hx hy λi a1 a2 a3 a4 a5 a6 I=>?_);replace a1:IsZ2 i z TI TO H2.objs.size false:=a1
  replace a5:IsPair i H2.objs.size (r[0]'U) (V[0]'vB):=a5
  replace a6:i.objs.size=H2.objs.size+1:=a6
  show wpAny _ _ (updateSeq s.heap.objs.size (·.push (.ref H2.objs.size)) >>= _) _ _ _;rw[aa] at a1 a5 a6 |-;have S1:=I _ _ (Yb v) (Yb B) (Yb l) (Yb m) S0;refine Zd ?_;have up:∀b o,b≠s.heap.objs.size->i.get? b=some o->(i.update s.heap.objs.size (Obj.mapSeq (·.push (.ref (s.heap.objs.size+1))))).get? b=some o:=λb o u e=>(Yp _ _ (W5 u)).trans e
  have J:∀{b:Addr},b<s.heap.objs.size->b≠s.heap.objs.size:=λh=>Yh h
  refine Q7 S1 rfl (Zs ⟨Ku Qx _,ybo .none (by simp[hh]) D af hz (λb u=>?_) (r.size-1) 1 _ _ _ [s.heap.objs.size+1] (s.heap.objs.size+1) false rfl U (up z _ (J v) a1) (.head _) (up TI _ (J K) (I TI _ g.TIz g.TITO g.TIi1 g.TIi2 R)) (a3.at λo e=>up C o (J l) e) (a4.at λo e=>up G o (J m) e)
   (S.at λo e=>up l1 o (J L) (I l1 o g.l1z g.l1TO g.l1i1 g.l1i2 e)) (T.at λo e=>up l2 o (J M) (I l2 o g.l2z g.l2TO g.l2i1 g.l2i2 e)) (Wv _ S1 rfl) rfl rfl (λj t e=>?_) (λt ht=>?_) (Wk _ _) λag tk ae c' ah ai e1 e2 e3 e4 e5 e6=>?_⟩)
  ·simp only[Zh,Zr,or_false] at u;rcases u with e|e|e|e|e|e|e<;>rw[e]
   ·exact Yb v
   ·exact Yb K
   ·exact Yb B
   ·exact Yb l
   ·exact Yb m
   ·exact Yb L
   ·exact Yb M
  ·cases j with
   |zero=>
    simp at e
    subst e;exact⟨_,_,hx,hy,up _ _ (U8 _) a5⟩
   |succ j=>simp at e
  ·rw[Z0.mp ht];exact⟨Yb (Kw v),Yb (Kw l),Yb (Kw m),U8 _⟩
  ·refine⟨rfl,hQ ag tk ae c' ah (λb o b1 b2 b3 b4 e=>ai b o (J (f e)) b1 b3 b4 (up b o (J (f e)) (I b o b1 b2 b3 b4 (d b o (f e) e)))) e1 e2 e3 e4 (λt ht=>?_) e6⟩
   rcases e5 t ht with q|q
   ·rw[Z0.mp q];exact Wz _
   ·have q':(i.update s.heap.objs.size (Obj.mapSeq (·.push (.ref (s.heap.objs.size+1))))).objs.size<=t:=q;rw[Kh,a6] at q';exact Ze (Kw (Wz _)) q'
end
open PySem L2 PyProof.Rows
def updL(H:Hp):List (Addr×HO)->Hp
 |[]=>H
 |(a,o)::L=>upd (updL H L) a o
theorem zkh{H:Hp}:∀{L:List (Addr×HO)}{a:Addr}{o:HO},updL H L a=some o->(a,o)∈L\/(H a=some o/\a∉L.map (·.1))
 |[],a,o,h=>.inr ⟨h,by simp⟩
 |(b,u)::L,a,o,h=>by
  unfold updL at h;by_cases e:a=b
  ·subst e;rw[Bs] at h;cases h;exact .inl (.head _)
  ·rw[Bo e] at h;rcases zkh h with q|q
   ·exact .inl (.tail _ q)
   ·exact .inr ⟨q.1,by simp only[Zx,Zh,not_or];exact⟨e,q.2⟩⟩
theorem zcp{H:Hp}:∀{L:List (Addr×HO)}{a:Addr},a∉L.map (·.1)->updL H L a=H a
 |[],_,_=>rfl
 |(b,u)::L,a,h=>by
  simp only[Zx,Zh,not_or] at h;unfold updL;rw[Bo h.1];exact zcp h.2
theorem zvq{H:Hp}:∀{L:List (Addr×HO)}{a:Addr}{o:HO},(L.map (·.1)).Nodup->(a,o)∈L->updL H L a=some o
 |(b,u)::L,a,o,d,h=>by
  rw[Zx,W8] at d;unfold updL;rcases Zh.mp h with e|h
  ·cases e;rw[Bs]
  ·have g:a≠b:=λe=>d.1 (e ▸ Wp (f:=(·.1)) h)
   rw[Bo g];exact zvq d.2 h
section
variable{X:Cx}{pins:List (Addr×Obj)}{σ:L2.St}{H:Hp}{s:Shared}{h':Heap}
def Inv.laidL{t':Nat}{L:List (Addr×HO)}(I:L2.Inv X pins σ H s)(k:∀b u,s.heap.get? b=some u->h'.get? b=some u)(j:∀p∈L,s.heap.objs.size<=p.1)(h:∀p∈L,ObjOk X.prog X.w (updL H L) h' p.1 p.2):
  L2.Inv X pins σ (updL H L) {s with heap:=h',toks:=t'}:=by
 have g:∀b,(∃u,s.heap.get? b=some u)->b∉L.map (·.1):=λb ⟨u,e⟩ i=>by
  obtain⟨p,f,rfl⟩:=Zq.mp i
  exact Wt _ (Ze (Zn e) (j p f))
 have m:∀p∈L,H p.1=none:=λp f=>I.hok.fresh (j p f)
 have d:∀b u,H b=some u->updL H L b=some u:=λb u e=>by
  rw[zcp λi=>by
   obtain⟨p,f,rfl⟩:=Zq.mp i
   rw[m p f] at e;cases e]
  exact e
 refine I.un (t':=t') ⟨λb u q _ _ _=>k b u q,λb u q _ _ _=>⟨u.slots,k b u q⟩,λb u q n _=>by rw[zcp (g b ⟨u,q⟩)];exact n,λb u q _=>⟨u,k b u q⟩,λb l q=>d b _ q,λb u l q=>d b _ q,λb r q=>⟨#[],by rw[d b _ q];simp⟩⟩ λa o e=>?_;rcases zkh e with q|⟨q,_⟩
 ·exact h _ q
 ·exact(I.hok a o q).stay (λc v _ z=>k c v z) (λc z=>d c _ z) λc l z=>d c _ z
end
section
variable{K:vE}{H0 Fc F H:Hp}{σ:L2.St}{ρ:Rho}
theorem ER.layL:∀(L:List (Addr×HO)),ER K H0 Fc F H σ ρ->(L.map (·.1)).Nodup->(∀p∈L,H p.1=none)->ER K H0 Fc (updL F L) (updL H L) σ ρ/\Same F (updL F L)
 |[],R,_,_=>⟨R,Same.refl _⟩
 |(a,o)::L,R,d,e=>by
  rw[Zx,W8] at d;obtain⟨f,g⟩:=ER.layL L R d.2 λp h=>e p (.tail _ h)
  obtain⟨R2,i⟩:=f.lay (a:=a) o (by rw[zcp d.1];exact e (a,o) (.head _))
  exact⟨R2,g.trans i⟩
end
def zipD(a b:List D):List D:=(a.zip b).map λp=>D.tup [p.1,p.2]
def zipL(d:List Addr)(e:List (V×V)):List (Addr×HO):=(d.zip e).map λz=>(z.1,HO.tup [z.2.1,z.2.2])
def zrk{d:List Addr}{e:List (V×V)}(h:d.length=e.length):(zipL d e).map (·.1)=d:=by
 unfold zipL;rw[Ya];show(d.zip e).map (λz=>z.1)=d;exact List.map_fst_zip vB
theorem zzt{K:vE}{F:Hp}:∀{a b:List D}{f g:List V}{e:List Addr}{G:Hp},DenL K F a f->DenL K F b g->f.length=g.length->e.length=f.length->Same F G->(∀p∈zipL e (f.zip g),G p.1=some p.2)->DenL K G (zipD a b) (e.map V.ref)
 |[],b,f,g,e,G,j,l,h,i,s,m=>by
  have z:=j.inv_nil;subst z;have:e=[]:=V0.mp (by simpa using i)
  subst this;exact DenL.nil
 |d::a,b,f,g,e,G,j,l,h,i,s,m=>by
  obtain⟨v,E,z,q,r⟩:=j.inv_cons
  subst z;cases b with
  |nil=>rw[l.inv_nil] at h;cases h
  |cons H b=>
   obtain⟨n,o,u,w,A⟩:=l.inv_cons
   subst u;cases e with
   |nil=>cases i
   |cons t e=>
    have B:=m (t,HO.tup [v,n]) (.head _);refine DenL.cons (Den.tup_mk (SqT.of B) (DenL.cons (q.mono s) (DenL.cons (w.mono s) DenL.nil))) ?_;exact zzt r A (by simpa using h) (by simpa using i) s λp C=>m p (.tail _ C)
theorem zpg:∀{d:List V}{f:List Value},Vals d f->∀(j:Nat) (u:Value),f[j]? = some u->∃x,d[j]? = some x/\RelV x u
 |[],_,h,j,u,e=>by cases h;simp at e
 |x::d,_,h,0,u,e=>by
  cases h with
  |cons g i=>simp at e;subst e;exact⟨x,rfl,g⟩
 |x::d,_,h,j+1,u,e=>by
  cases h with
  |cons g i=>
   obtain⟨y,l,m⟩:=zpg i j u (by simpa using e)
   exact⟨y,by simpa using l,m⟩
theorem zrm:∀d:List Addr,Vals (d.map V.ref) (d.map Value.ref)
 |[]=>.nil
 |t::d=>.cons rfl (zrm d)
section
variable{X:Cx}
def ydy{a b:List D}(hX:X.calm=true)(a8:a.length=b.length):yin X (.type "list") (.type "zip") [.lst a,.lst b] (.new (zipD a b)):=by
 refine⟨λU H Q=>∃p q f g,U=[.ref p,.ref q]/\SqL X.K H p f/\SqL X.K H q g/\f.length=g.length/\∀(l:Addr) (d:List Addr),d.length=f.length->(l::d).Nodup->(∀t∈l::d,H t=none)->Q (.ref l) (upd (updL H (zipL d (f.zip g))) l (.lst (d.map V.ref))),λM s σ H U us Q I r h=>?_,λH0 Fc H F σ ρ U Q R q k=>?_⟩
 ·obtain⟨p,q,f,g,rfl,W,Y,a9,hq⟩:=h
  cases r with
  |cons r1 r=>
   cases r with
   |cons r2 r=>
    cases r;cases r1;cases r2;obtain⟨a6,v1,A,z1⟩:=I.list W
    obtain⟨a7,v2,B,z2⟩:=I.list Y
    have n1:=v1.length;have n2:=v2.length;have lp:p<s.heap.objs.size:=by obtain⟨o,Z,_⟩:=A.isList;exact Zn Z
    have lq:q<s.heap.objs.size:=by obtain⟨o,Z,_⟩:=B.isList;exact Zn Z
    refine call_zip_2 A.isList B.isList λC g1 g2 g3 g4 g5 g6 E=>?_;refine zmm (s:={s with heap:=C}) (I.ok.hd hX) (za_of lp lq) (ygq lp lq) (by simp only[Zt];omega) (by simp only[Zt];omega) g1 g2 g3 g4 g5 (A.isList.at λo e=>E _ o e) (B.isList.at λo e=>E _ o e) λP tk a0 c d a1 e1 e2 e3 e4 e5 e6=>?_;have aa:∀n:Nat,(s.heap.objs.size+n:Addr)≠s.heap.objs.size\/n=0:=λn=>by
     rcases Qz n with z|z
     ·exact .inr z
     ·exact .inl (ane vB)
    have le:s.heap.objs.size<=C.objs.size:=by rw[g6];exact Qu _ _
    have J:d.length=f.length:=by rw[e3,Zt,<-n1]
    have kp:∀b u,s.heap.get? b=some u->P.get? b=some u:=λb u e=>by
     have S:=Zn e;exact a1 b u (Yh (Ze S (Qu _ 4))) (Yh (Ze S (Qu _ 3))) (Yh S) (Yh (Kw S)) (E b u e)
    have N:∀t∈C.objs.size::d,s.heap.objs.size<=t:=λt G=>by
     rcases Zh.mp G with e|G
     ·rw[e];exact le
     ·exact Wg le (J0 (e5 t G))
    have L:(C.objs.size::d).Nodup:=W8.mpr ⟨λhm=>Wt _ (e5 _ hm),e6⟩;have zl:(f.zip g).length=f.length:=by rw[Ju];omega
    have i:(zipL d (f.zip g)).map (·.1)=d:=zrk (by rw[zl];exact J);have a2:∀t∈d,t∈(zipL d (f.zip g)).map (·.1):=λt G=>by rw[i];exact G
    show EP X M σ Q (.ref C.objs.size) {s with heap:=P,toks:=tk};refine⟨.ref C.objs.size,updL H ((C.objs.size,HO.lst (d.map V.ref))::zipL d (f.zip g)),Inv.laidL (t':=tk) I kp (λO m=>?_) (λO m=>?_),rfl,hq _ d J L λt G=>I.hok.fresh (N t G)⟩
    ·refine N _ ?_;rcases Zh.mp m with e|hm
     ·rw[e];exact .head _
     ·exact .tail _ (by rw[<-i];exact Wp hm)
    ·rcases Zh.mp m with e|hm
     ·rw[e];show ObjOk X.prog X.w _ P _ (.lst (d.map V.ref));refine⟨by rw[Zc,J];exact z1,d.map Value.ref,c,zrm d,?_⟩
      have:a0=(d.map Value.ref).toArray:=by apply K4.mp;rw[e2]
      rw[<-this];exact e1
     ·unfold zipL at hm;obtain⟨T,hz,e⟩:=Zq.mp hm
      obtain⟨j,hj⟩:=W6 hz
      rw[Kb] at hj;obtain⟨j1,j2⟩:=hj
      rw[Kb] at j2;obtain⟨x,y,x1,x2,x3⟩:=e4 j T.1 j1
      obtain⟨vx,ex,rx⟩:=zpg v1 j x (by simpa using x1)
      obtain⟨vy,ey,ry⟩:=zpg v2 j y (by simpa using x2)
      rw[j2.1] at ex;rw[j2.2] at ey;cases ex;cases ey;rw[<-e];show ObjOk X.prog X.w _ P T.1 (.tup [T.2.1,T.2.2]);exact⟨by show 2<=sizeLine;decide,[x,y],.cons rx #v[ry],_,x3,rfl,0,rfl⟩
 ·obtain⟨v,u,e,q1,q2⟩:=q.two
  obtain⟨p,f,e1,a3,d1⟩:=q1.lst
  obtain⟨p2,g,e2,a4,d2⟩:=q2.lst
  rw[e1,e2] at e;have l1:=d1.length;have l2:=d2.length;refine⟨p,p2,f,g,e,R.sub.seq a3,R.sub.seq a4,by omega,λl d J L hn=>?_⟩
  rw[W8] at L;have zl:(f.zip g).length=f.length:=by rw[Ju];omega
  have i:(zipL d (f.zip g)).map (·.1)=d:=zrk (by rw[zl];exact J);have a5:∀O∈zipL d (f.zip g),H O.1=none:=λO m=>hn _ (.tail _ (by rw[<-i];exact Wp m))
  obtain⟨R1,s1⟩:=ER.layL (zipL d (f.zip g)) R (by rw[i];exact L.2) a5
  have hl:updL H (zipL d (f.zip g)) l=none:=by
   rw[zcp (by rw[i];exact L.1)];exact hn l (.head _)
  obtain⟨R4,hF,h0⟩:=R1.put (.lst (d.map V.ref)) hl
  refine k _ _ _ s1 R4 (RW.n hF h0 Bs ?_);exact zzt d1 d2 vB J s1 λO m=>zvq (by rw[i];exact L.2) m
end
open PySem L2 PyProof.Rows
section
variable{prog:Program}{w:World}{A:Around}{E:Value->Shared->Prop}{s:Shared}
end
section
variable{X:Cx}{pos:Pos}
end
open PySem L2 PyProof.Rows
open PySem.SeqAt (EqAt)
def LtAt(A:Around)(s:Shared)(y x:Value)(b:Bool):Prop:=
 ∀(d:Program) (w:World) (E:Value->Shared->Prop) (Q:Value->Shared->Prop),Q (.bool b) s->wpAny (model d w) A (richCompare .Lt y x) Q E s
def fstD(d e f g:Bool):Bool:=if d=true then(if f=true then false else g) else e
def two_lt{l b:Addr}{q m r o:Value}{n n2:Nat}{dd dd2:Option Addr}{sl sl2:Array (Option Value)}(i z p B:Bool):
  Meets (Builtin.«tuple.__lt__» ⟨[.ref l,.ref b],[]⟩)
   (λA R s=>s.heap.get? l=some {cls:=.type "tuple",dict:=dd,data:=.seq #[q,m] n,slots:=sl}/\s.heap.get? b=some {cls:=.type "tuple",dict:=dd2,data:=.seq #[r,o] n2,slots:=sl2} /\
    EqAt A.in1 s q r i/\(i=false->LtAt A.in1 s q r z)/\(i=true->EqAt A.in1 s m o p/\(p=false->LtAt A.in1 s m o B)) /\
    R (.ok (.ret (.bool (fstD i z p B)))) s):=
 .of_wp λe w A R s h=>by
  obtain⟨C,g,d,D,os⟩:=s;obtain⟨E,F,G,H,t,h⟩:=h
  have K:=AutoSeq1.sub_tuple_tuple;wp_walk using U9 E,U9 F,wpAny_forIn_list _ (λrest b u=>b.1=none/\u=⟨C,g,d,D,os⟩ /\
   ((rest=[(q,r),(m,o)])\/(rest=[(m,o)]/\i=true)\/(rest=[]/\i=true/\p=true))) _
  case turn=>
   rintro⟨y,x⟩ rest b u ⟨j,rfl,f⟩
   rcases f with f|⟨f,v⟩|⟨f,_⟩
   ·cases f;refine Zd (G e w _ _ ?_);cases i with
    |true=>wp_walk;exact⟨rfl,rfl,.inr (.inl ⟨rfl,rfl⟩)⟩
    |false=>
     refine Zd (Js (Zd (H rfl e w _ _ ?_)));wp_walk
     exact⟨_,rfl,h⟩
   ·cases f;subst v;obtain⟨t,I⟩:=t rfl
    refine Zd (t e w _ _ ?_);cases p with
    |true=>wp_walk;exact⟨rfl,rfl,.inr (.inr ⟨rfl,rfl,rfl⟩)⟩
    |false=>
     refine Zd (Js (Zd (I rfl e w _ _ ?_)));wp_walk
     exact⟨_,rfl,h⟩
   ·cases f
  case fin=>
   rintro⟨L,M⟩ u ⟨j,rfl,f⟩
   simp only at j
   subst j;rcases f with f|⟨f,_⟩|⟨_,v,J⟩
   ·cases f
   ·cases f
   ·subst v;subst J;wp_walk
    exact⟨_,rfl,h⟩
  case h=>exact⟨rfl,rfl,.inl rfl⟩
def Reads.tup2{h:Heap}{v:Value}{x y:PyData}{g:List Addr}(r:Reads h v (.tuple [x,y]) g):∃l o u w n i j,v=.ref l/\h.get? l=some o/\o.cls=.type "tuple" /\ o.data=.seq #[u,w] n/\Reads h u x i/\Reads h w y j:=by
 cases r with
 |tuple m p q f=>
  rename_i a o s n;generalize e:s.toList=A at f;cases f with
  |cons t d=>
   cases d with
   |cons d z=>
    cases z;skip
    refine⟨a,o,_,_,n,_,_,rfl,m,p,?_,t,d⟩
    rw[q];congr 1
    exact K4.mp (by rw[e])
section
variable{A:Around}{s:Shared}
def ymc{i j:Int}{t u:Tok}:LtAt A s (.int i t) (.int j u) (decide (i<j)):=λd w E Q h=>(PyProof.Rows.lt_int h:wpAny (model d w) A (compareOp .Lt (.int i t) (.int j u)) Q E s)
def lt_tup{v u:Value}{q r t z:PyData}{d e:List Addr}{f g i j:Bool}(P:Reads s.heap v (.tuple [q,r]) d)(R:Reads s.heap u (.tuple [t,z]) e)(S:A.units<cLine)
 (B:∀v u d e,Reads s.heap v q d->Reads s.heap u t e->EqAt A.in1 s v u f/\LtAt A.in1 s v u g)(C:∀v u d e,Reads s.heap v r d->Reads s.heap u z e->EqAt A.in1 s v u i/\LtAt A.in1 s v u j):LtAt A s v u (fstD f g i j):=by
 intro D w E Q h;obtain⟨l,⟨T,U,data,V⟩,X,Y,n,_,_,rfl,G,H,I,J,K⟩:=Reads.tup2 P
 obtain⟨b,⟨L,p,data2,sl2⟩,Z,q1,W,_,_,rfl,M,m,o,N,O⟩:=Reads.tup2 R
 simp only at H I m o
 subst H I m o;exact richCompare_meets_room (op:=.Lt) ⟨_,G,rfl⟩ ⟨_,M,rfl⟩ F.slot_tuple_lt F.entry_tuple_lt (F.args_tuple_lt_2 _ _) (two_lt (dd:=U) (dd2:=p) (sl:=V) (sl2:=sl2) (n:=n) (n2:=W) f g i j)
  ⟨G,M,(B _ _ _ _ J N).1,λ_=>(B _ _ _ _ J N).2,λ_=>⟨(C _ _ _ _ K O).1,λ_=>(C _ _ _ _ K O).2⟩,show Value.bool (fstD f g i j)≠Value.notImplemented/\Q (.bool (fstD f g i j)) s from⟨(λx=>nomatch x),h⟩⟩ S
def lt2(a c b d:Int):Bool:=fstD (a == b) (decide (a<b)) (c == d) (decide (c<d))
abbrev pd2(a c:Int):PyData:=.tuple [.int a,.int c]
def lt_pd2{v u:Value}{a c b d:Int}{e f:List Addr}(i:Reads s.heap v (pd2 a c) e)(j:Reads s.heap u (pd2 b d) f)(l:A.units<cLine):LtAt A s v u (lt2 a c b d):=by
 refine lt_tup i j l (λv u e f g h=>?_) λv u e f g h=>?_
 all_goals
  cases g;cases h
  exact⟨SeqAt.EqAt.int_int _ _ _ _,ymc⟩
end
def tupO:D->Option (List D)
 |.tup l=>some l
 |_=>none
def intO:D->Option Int
 |.int i=>some i
 |_=>none
def twoO:List D->Option (D×D)
 |[a,b]=>some (a,b)
 |_=>none
def prI(d:D):Option (Int×Int):=(tupO d).bind λl=>(twoO l).bind λp=>(intO p.1).bind λa=>(intO p.2).map λc=>(a,c)
def tupO_s{d:D}{l:List D}(h:tupO d=some l):d=.tup l:=by cases d<;>first|(cases h;rfl)|(cases h;done)
def yhp{d:D}{i:Int}(h:intO d=some i):d=.int i:=by cases d<;>first|(cases h;rfl)|(cases h;done)
def twoO_s{l:List D}{p:D×D}(h:twoO l=some p):l=[p.1,p.2]:=by
 cases l with
 |nil=>cases h
 |cons a l=>
  cases l with
  |nil=>cases h
  |cons b l=>
   cases l with
   |nil=>cases h;rfl
   |cons _ _=>cases h
def prI_s{d:D}{x:Int×Int}(h:prI d=some x):d=.tup [.int x.1,.int x.2]:=by
 obtain⟨l,e,h⟩:=Za.mp h
 obtain⟨p,f,h⟩:=Za.mp h
 obtain⟨a,g,h⟩:=Za.mp h
 obtain⟨c,i,h⟩:=Zb.mp h
 rw[tupO_s e,twoO_s f,yhp g,yhp i,<-h]
def nst(d:D):Option (Int×Int):=prI d
def ltN(x y:D):Bool:=match nst x,nst y with
 |some p,some q=>lt2 p.1 p.2 q.1 q.2
 |_,_=>false
def ylo{x:D}{p:Int×Int}(h:nst x=some p):toP x=pd2 p.1 p.2/\dOk 49 x=true:=by
 rw[prI_s h];exact⟨by simp[toP,toPs],by simp[dOk,dOkL]⟩
def lt_nst{A:Around}{s:Shared}{v u:Value}{x y:D}{p q:Int×Int}{i j:List Addr}(d:nst x=some p)(f:nst y=some q)(g:Reads s.heap v (toP x) i)(h:Reads s.heap u (toP y) j)(l:A.units+8<cLine):LtAt A s v u (ltN x y):=by
 have e:ltN x y=lt2 p.1 p.2 q.1 q.2:=by unfold ltN;rw[d,f]
 rw[e];rw[(ylo d).1] at g;rw[(ylo f).1] at h;exact lt_pd2 g h vB
open PySem L2 PyProof.Rows
open PySem.SeqAt (EqAt)
def Ext(h d:Heap):Prop:=∀b o,h.get? b=some o->d.get? b=some o
section
variable{prog:Program}{w:World}{A:Around}{E:Value->Shared->Prop}{R:Result->Shared->Prop}{h₀:Heap}{I S l:Addr}{vs:List Value}
def zqn{h h':Heap}{f:Obj->Obj}(k:Ext h₀ h)(hS:h₀.get? S=none):Ext h₀ (h.update S f):=λb o e=>
 (Yp _ _ (λz:S=b=>by rw[z,e] at hS;cases hS)).trans (k b o e)
def zqo{h d:Heap}(k:Ext h₀ h)(f:h₀.get? I=none)(g:∀b o,b∉[I]->h.get? b=some o->d.get? b=some o):Ext h₀ d:=λb o e=>
 g b o (λz=>by rw[Z0.mp z,f] at e;cases e) (k b o e)
def yly(Y:A.handled=none)(t:Nat->Nat->Bool)(H:h₀.IsList l vs.toArray)(J:h₀.get? I=none)(hS:h₀.get? S=none)(u:S≠I)
 (B:∀i j M N (s:Shared),Ext h₀ s.heap->vs[i]? = some M->vs[j]? = some N->LtAt A.in1 s M N (t i j)):
  ∀(k j:Nat) (s:Shared) (g:Value) (c:Nat),vs.length-(j+1)=k->j+1<=vs.length->s.heap.IsListIter I l (j+1)->Ext h₀ s.heap->vs[argBest t j]? = some g ->
   s.heap.get? S=some (seqObj "list" #[g,g] c) ->
   (∀v h C,vs[argBest t (vs.length-1)]? = some v->Ext h₀ h->R (.ok (.ret v)) {s with heap:=h,toks:=C}) ->
   codeAny (model prog w) A (.builtin "min.loop" ⟨[.ref I,.none,.ref S],[]⟩) R s:=by
 have O:(toString "min" ++ toString ".loop" : String) = "min.loop" := by decide
 have Z:l≠I:=λz=>by
  obtain⟨o,q,_⟩:=H
  rw[z,J] at q;cases q
 have W:=Walks.list (prog:=prog) (w:=w) (A:=A.in1) Y I l Z vs.toArray;have P:vs.toArray.size=vs.length:=Zt ..;have Q:S∉[I]:=by simpa using u
 intro k;induction k with
 |zero=>
  intro j s g c hk hj K D F E G;have T:j+1=vs.length:=by omega
  refine Kv Vk ?_;rw[Qj Qy _];show wpAny _ A.in1 (seqItems? (.ref S) >>= _) _ _ s;refine Zd (Wo E rfl ?_);show wpAny _ A.in1 (tryCatch (pyNext (.ref I)) _ >>= _) _ _ s;refine Zd (Uv (W.done s _ _ ⟨by rw[P,<-T];exact K,H.at λo q=>D _ _ q⟩ λh C d=>?_));show wpAny _ A.in1 (updateSeq S (λ_=>#[]) >>= _) _ _ _;refine Zd (Q7 (d S _ Q E) rfl (Zd (Jh (Zs ?_))));exact G g _ C (by rw[<-T];exact F) (zqn (h':=h) (zqo D J d) hS)
 |succ k U=>
  intro j s g c hk hj K D F E G;have m:j+1<vs.length:=by omega
  refine Kv Vk ?_;rw[Qj Qy _];show wpAny _ A.in1 (seqItems? (.ref S) >>= _) _ _ s;refine Zd (Wo E rfl ?_);show wpAny _ A.in1 (tryCatch (pyNext (.ref I)) _ >>= _) _ _ s;refine Zd (Uv (W.item (j+1) s _ _ (by rw[P];exact m) ⟨K,H.at λo q=>D _ _ q⟩ λv h C hP V d=>?_));have X:vs[j+1]? = some v:=by simpa using hP
  have n:=zqo D J d;have p:=d S _ Q E;show wpAny _ A.in1 (tryCatch (holding [v,v] (richCompare .Lt v g >>= _)) _ >>= _) _ _ _;refine Zd (Uv (Qa (Zd (B (j+1) (argBest t j) v g {s with heap:=h,toks:=C} n X F prog w _ _ ?_))));refine Zd (Qa (Kd (Zd (Jh (Zs ?_)))));cases q:t (j+1) (argBest t j) with
  |true=>
   simp only[if_true];refine Zd (Q7 p rfl (Zd (Jh ?_)));rw[O];refine Zs ⟨Ku Qy _,U (j+1) _ v _ vB m (V.1.at λo e=>(Yp _ _ u).trans e) (zqn (h':=h) n hS) (by simp only[argBest,q,if_true];exact X) (get?_update_seq p λ_=>#[v,v]) λL r f=>G L r f⟩
  |false=>
   simp only[Wb,if_false];refine Zd (Jh ?_);rw[O];refine Zs ⟨Ku Qy _,U (j+1) _ g c vB m V.1 n (by simp only[argBest,q,Wb,if_false];exact F) p λL r f=>G L r f⟩
def yec{s:Shared}(B:A.handled=none)(p:Nat->Nat->Bool)(r:h₀.IsList l vs.toArray)(t:h₀.get? I=none)(hS:h₀.get? S=none)(d:S≠I)(C:0<vs.length)
 (f:∀i j D E (s:Shared),Ext h₀ s.heap->vs[i]? = some D->vs[j]? = some E->LtAt A.in1 s D E (p i j))(J:s.heap.IsListIter I l 0)(F:Ext h₀ s.heap)(G:s.heap.get? S=some (seqObj "list" #[] 0))
 (K:∀v n H,vs[argBest p (vs.length-1)]? = some v->Ext h₀ n->R (.ok (.ret v)) {s with heap:=n,toks:=H}):codeAny (model prog w) A (.builtin "min.loop" ⟨[.ref I,.none,.ref S],[]⟩) R s:=by
 have L:(toString "min" ++ toString ".loop" : String) = "min.loop" := by decide
 have M:l≠I:=λz=>by
  obtain⟨o,q,_⟩:=r
  rw[z,t] at q;cases q
 have W:=Walks.list (prog:=prog) (w:=w) (A:=A.in1) B I l M vs.toArray;have N:vs.toArray.size=vs.length:=Zt ..;refine Kv Vk ?_;rw[Qj Qy _];show wpAny _ A.in1 (seqItems? (.ref S) >>= _) _ _ s;refine Zd (Wo G rfl ?_);show wpAny _ A.in1 (tryCatch (pyNext (.ref I)) _ >>= _) _ _ s;refine Zd (Uv (W.item 0 s _ _ (by rw[N];exact C) ⟨J,r.at λo q=>F _ _ q⟩ λv n H O P g=>?_));have Q:vs[0]? = some v:=by simpa using O
 have h:=g S _ (by simpa using d) G;show wpAny _ A.in1 (updateSeq S (λ_=>#[v,v]) >>= _) _ _ _;refine Zd (Q7 h rfl ?_);rw[L];exact Zs ⟨Ku Qy _,yly B p r t hS d f _ 0 _ v _ rfl C (P.1.at λo e=>(Yp _ _ d).trans e) (zqn (h':=n) (zqo F t g) hS) Q (get?_update_seq h λ_=>#[v,v]) λT u m=>K T u m⟩
def ylz{s:Shared}{Q:Value->Shared->Prop}(u:A.handled=none)(m:Nat->Nat->Bool)(p:s.heap.IsList l vs.toArray)(z:0<vs.length)
 (g:∀i j q r (t:Shared),Ext s.heap t.heap->vs[i]? = some q->vs[j]? = some r->LtAt A.in1 t q r (m i j))
 (B:∀v h n,vs[argBest m (vs.length-1)]? = some v->Ext s.heap h->Q v {s with heap:=h,toks:=n}):wpAny (model prog w) A (call (.builtin "min") [.ref l]) Q E s:=by
 have C:(toString "min" ++ toString ".loop" : String) = "min.loop" := by decide
 refine call_function_tree F.kind_min F.plain_min F.entry_min (F.args_min1 _) ?_;show wpAny _ A.in1 (Builtin.Builtins.bindParams "min" ["key","default"] 0 ⟨[],[]⟩ >>= _) _ _ s;refine Zd (wpAny_of_eq (show Builtin.Builtins.bindParams "min" ["key","default"] 0 ⟨[],[]⟩=pure [none,none] from rfl) ?_);refine Zd (Zs ?_);refine Zd (Vd p ?_);refine Zd (Gp ?_ (Yr _));rw[C];have up:∀d f,Ext s.heap ((s.heap.push d).push f):=λd f b x e=>Zf _ (Zf _ e)
 have D:s.heap.get? s.heap.objs.size=none:=Ua (Zl _);have G:∀o,s.heap.get? (s.heap.push o).objs.size=none:=λo=>Ua (by rw[size_push'];exact Jo _)
 have H:∀o,(s.heap.push o).objs.size≠s.heap.objs.size:=λo=>by rw[size_push'];exact Yb (Wz _)
 exact Zs ⟨Ku Qy _,yec u m p D (G _) (H _) z g ⟨_,Zf _ (Zy _ rfl),rfl,rfl⟩ (up _ _) (Zy _ rfl) λv h n a b=>B v h n a b⟩
end
section
variable{X:Cx}
def zuo(l:List D):Nat:=argBest (λi j=>ltN (l.getD i .non) (l.getD j .non)) (l.length-1)
def minN(l:List D):Option D:=if (l.all λd=>(nst d).isSome)=true then l[zuo l]? else none
def ylp{l:List D}(h:(l.all λd=>(nst d).isSome)=true){d:D}(e:d∈l):∃p,nst d=some p:=Vf.mp (U2.mp h d e)
def yaj(W:X.calm=true)(hu:X.A.units+64<cLine):zka X (.builtin "min") (λR H Q=>∃a F t l r,R=[.ref a]/\Same F H/\SqL X.K F a t/\DenL X.K F l t/\minN l=some r/\∀v,Den X.K F r v->Q v H):=by
 intro pins s σ H R us Q I r ⟨a,F,t,l,d,e,S,Y,L,o,q⟩;subst e;obtain⟨u,e,Z⟩:=zkt r
 subst e;cases Z;obtain⟨g,M,pl,hz⟩:=I.list (S.seq Y)
 unfold minN at o;split at o
 ·rename_i w;have B:t.length=l.length:=L.length;have C:t.length=g.length:=M.length;have a0:zuo l<l.length:=by
   rcases Yd (zuo l) l.length with h|h
   ·exact h
   ·rw[Yl h] at o;cases o
  have T:∀i D,g[i]? = some D->∃m E p,l[i]? = some m/\nst m=some p/\Reads s.heap D (toP m) E:=λi D G=>by
   have a1:i<g.length:=(Zo.mp G).1;obtain⟨m,n⟩:∃m,l[i]? = some m:=⟨_,Zg vB⟩
   obtain⟨y,N,O⟩:=L.get n
   obtain⟨z,f,P⟩:=M.get N
   rw[G] at f;cases f;obtain⟨p,U⟩:=ylp w (Yq n)
   obtain⟨E,ra⟩:=zbu I S 49 m (ylo U).2 O P
   exact⟨m,E,p,n,U,ra⟩
  refine ylz (I.ok.hd W) (λi j=>ltN (l.getD i .non) (l.getD j .non)) pl.isList vB (λi j D vj s' J G hj=>?_) λv h' tk V J=>?_
  ·obtain⟨m,E,p,h1,h2,h3⟩:=T i D G
   obtain⟨dj,bs,q,k1,k2,k3⟩:=T j vj hj
   rw[Zi,Zi,h1,k1];exact lt_nst h2 k2 (Reads.keeps J h3) (Reads.keeps J k3) (by rw[Gy];omega)
  ·rw[<-C,B] at V;obtain⟨y,N,O⟩:=L.get o
   obtain⟨z,f,P⟩:=M.get N
   rw[show g[zuo l]? = some v from V] at f;cases f;exact⟨y,H,I.kept J,P,q y O⟩
 ·cases o
def yfw{l:List D}{d:D}(f:X.calm=true)(g:X.A.units+64<cLine)(h:minN l=some d):zha X (.builtin "min") [.lst l] (.val d):=⟨_,yaj f g,λo s H F t u w Q R q k=>by
 obtain⟨v,e,q⟩:=q.one
 obtain⟨p,i,j,m,r⟩:=q.lst
 rw[j] at e;exact⟨p,F,i,l,d,e,R.sub,m,r,h,λv n=>k v H F (Same.refl _) R (RW.v n)⟩⟩
def idxD(l:List D)(y:D):Option Nat:=if (dOkL 49 l && dOk 50 y)=true then l.findIdx? (λd=>eqD d y) else none
def idxW:D->D->Option W
 |.lst l,y=>(idxD l y).map λ(k:Nat)=>W.val (.int (k:Int))
 |_,_=>none
theorem zta:∀{l:List D}{n:Nat}{d:D},dOkL n l=true->d∈l->dOk n d=true
 |d::l,n,e,h,f=>by
  simp only[dOkL,Zk] at h;rcases Zh.mp f with z|z
  ·rw[z];exact h.1
  ·exact zta h.2 z
def yeb(hu:X.A.units+64<cLine):MtR X "list.index" (λx Z H Q=>∃a F C l y v k,x=.ref a/\Z=[v]/\Same F H/\SqL X.K F a C/\DenL X.K F l C/\Den X.K F y v/\idxD l y=some k/\Q (.int (k:Int)) H):=by
 intro pins s σ H x Z vv us Q I rx r ⟨a,F,C,l,y,v,k,e,e2,R,sq,dn,dy,N,q⟩;subst e;subst e2;obtain⟨u,e,r1⟩:=zkt r
 subst e;cases rx;obtain⟨f,rv,pl,hz⟩:=I.list (R.seq sq)
 unfold idxD at N;split at N
 ·rename_i p;rw[Zk] at p;obtain⟨⟨a4,dd,data,sl⟩,ho,hc,n,E⟩:=id pl.isList
  simp only at hc E
  subst hc E;have a0:C.length=l.length:=dn.length;have a3:C.length=f.length:=rv.length;obtain⟨bs,ry⟩:=zbu I R 50 y p.2 dy r1
  have S:∀i T,f[i]? = some T->∃d G,l[i]? = some d/\dOk 49 d=true/\Reads s.heap T (toP d) G:=λi T hi=>by
   have a5:i<f.length:=(Zo.mp hi).1;obtain⟨d,t⟩:∃d,l[i]? = some d:=⟨_,Zg vB⟩
   obtain⟨y,hy,qy⟩:=dn.get t
   obtain⟨z,J,rz⟩:=rv.get hy
   rw[hi] at J;cases J;have ok:=zta p.1 (Yq t);obtain⟨G,ra⟩:=zbu I R 49 d ok qy rz
   exact⟨d,G,t,ok,ra⟩
  obtain⟨U,O,h3⟩:=Uo.mp N
  classical
  let e:Value->Bool:=λz=>decide (∃(i:Nat) (d:D),f[i]? = some z/\l[i]? = some d/\eqD d y=true)
  have h:∀i z d,f[i]? = some z->l[i]? = some d->e z=eqD d y:=λi z d h1 O=>by
   obtain⟨d1,a6,P,g,w⟩:=S i z h1
   rw[O] at P;cases P;cases q:eqD d y with
   |true=>exact decide_eq_true ⟨i,d,h1,O,q⟩
   |false=>
    refine decide_eq_false λ⟨j,dj,k1,k2,k3⟩=>?_;obtain⟨d2,a7,g2,V,W⟩:=S j z k1
    rw[k2] at g2;cases g2;have:=(reads_det (λb o e _=>e) w W).1
    rw[<-zqp 49 50 d y g p.2,<-this,zqp 49 50 dj y V p.2,k3] at q;cases q
  have L:k<f.toArray.size:=by simp only[Zt];omega
  have M:∀m (B:m<f.toArray.size) (hl:m<l.length),e f.toArray[m]=eqD l[m] y:=λm B hl=>
   h m _ _ (by simp only[List.getElem_toArray];exact Zg (by simpa using B)) (Zg hl)
  refine call_meets Ve ⟨_,ho,rfl⟩ PySem.F.entry_list_index (PySem.F.args_list_index_2 _ _)
   (SeqAt.list_indexAt a f.toArray n dd sl u e k L ?_ ?_ ?_) ⟨ho,λz hz=>?_,?_⟩
  ·have:sizeLine<2^63-1:=by decide
   omega
  ·rw[M k L U];exact O
  ·intro m B Y;rw[M m B vB];simpa using h3 m Y
  ·obtain⟨m,B,ez⟩:=Ki (J2.mpr hz)
   have gz:f[m]? = some z:=by rw[<-ez];exact Zg B
   obtain⟨d,G,P,g,w⟩:=S m z gz
   rw[h m z d gz P,<-zqp 49 50 d y g p.2];obtain⟨a1,b1⟩:=zus 49 d g
   obtain⟨a2,b2⟩:=zus 50 y p.2
   exact SeqAt.eqAt_reads (toP d) (toP y) X.A.in1 s z u G bs w ry a1 a2 (by rw[Gy];have:=Nat.min_le_left (toP d).depth (toP y).depth;omega)
  ·exact⟨.int (k:Int),H,I.tok _,⟨_,rfl⟩,q⟩
 ·cases N
def DE.idx{d:Rho}{x:Str}{p i j:Pos}{e:Expr}{l:List D}{y:D}{k:Nat}(z:X.A.units+64<cLine)(B:DF X (.Name x p) d (.lst l))(C:DF X e d y)(f:Bm e=true)(E:(i.endLine == j.line)=true)(G:idxD l y=some k):
  DE X (.Call (.Attribute (.Name x p) "index" i) [e] [] j) d (.val (.int (k:Int))):=λm n=>
 PE.mono (ydp (T := "list") Ji Ve PySem.F.type_list_index (yeb z) (B m n) (DA.cons C DA.nil f m n) (by rfl) (by rw[Bu f];rfl) E (Bu f) rfl) λW H Q ⟨F,R,q⟩=>
  ⟨F,R,λv Y I J o s=>by
   obtain⟨a,K,L,M,r⟩:=s.lst
   subst L;refine⟨.inl ⟨rfl,K,o.sub.seq M⟩,I,o,λZ N t w R2 O=>?_⟩
   obtain⟨u,P,S⟩:=O.one
   obtain⟨a',g,U,h,V⟩:=(s.mono w).lst
   cases U;exact⟨a,t,g,l,y,u,k,rfl,P,R2.sub,h,V,S,G,q _ N t (J.trans w) R2 RW.int⟩⟩
end
open PySem L2 PyProof.Rows
def zqh:List D->Option (List Int)
 |[]=>some []
 |.int i::l=>(zqh l).map λd=>i::d
 |_=>none
theorem zsm{K:vE}{F:Hp}:∀{l:List D}{f:List Int}{g:List V},zqh l=some f->DenL K F l g->g=f.map V.int
 |[],_,_,h,q=>by cases h;rw[q.inv_nil];rfl
 |d::l,f,_,h,q=>by
  obtain⟨v,n,e,i,j⟩:=q.inv_cons
  subst e;cases d<;>first|(cases h;done)|skip
  obtain⟨r,m,e⟩:=Zb.mp h
  subst e;rw[Zx,i.int,zsm m j]
theorem zon:∀{f:List Int}{g:List Value},Vals (f.map V.int) g->∃d:List (Int×Tok),g=d.map (λp=>Value.int p.1 p.2)/\d.map (·.1)=f
 |[],_,h=>by cases h;exact⟨[],rfl,rfl⟩
 |i::f,_,h=>by
  cases h with
  |cons j l=>
   obtain⟨t,e⟩:=j
   obtain⟨d,m,n⟩:=zon l
   subst e;subst m;subst n;exact⟨(i,t)::d,rfl,rfl⟩
section
variable{X:Cx}
def yeq{d:List (Int×Tok)}:intItems d.toArray=(d.map λp=>Value.int p.1 p.2).toArray:=by
 unfold intItems;simp
end
def Inv.turnedN{X:Cx}{pins:List (Addr×Obj)}{σ:L2.St}{H:Hp}{s:Shared}{l:Heap}{t:List Addr}{p:Addr}{o:HO}{E:Nat}(I:Inv X pins σ H s)(i:∀b∈t,FpOk X pins H b)
 (k:∀b d,b∉t->s.heap.get? b=some d->l.get? b=some d)(C:s.heap.objs.size<=p)(A:ObjOk X.prog X.w (upd H p o) l p o):Inv X pins σ (upd H p o) {s with heap:=l,toks:=E}:=by
 have B:∀{b:Addr}{d:Obj},s.heap.get? b=some d->b≠p:=λh z=>by
  have:=Zn h
  subst z;exact absurd (Ze this C) (Wt _)
 have e:∀{b:Addr}{u:HO},H b=some u->b≠p:=λh z=>by
  subst z;rw[I.hok.fresh C] at h;cases h
 refine I.step (g':=s.gens) (d':=s.drawn) (ch:=t) (λb f=>⟨(i b f).2.2.2.1,(i b f).2.1,(i b f).2.2.2.2.1,(i b f).2.2.2.2.2⟩) (λb d _ _ g q _=>k b d g q) (λb d _ _ g q _=>⟨d.slots,k b d g q⟩)
  (λb d g q n=>by rw[Bo (B q)];exact n) (λb d g q=>⟨d,k b d g q⟩) (λb D q=>by rw[Bo (e q)];exact q) (λb d D q=>by rw[Bo (e q)];exact q)
  (λb J q=>⟨#[],by rw[Bo (e q),q];simp⟩) (λm j=>?_) (λb u q=>?_) I.bare
 ·obtain⟨d,F,G,q,r⟩:=j
  exact⟨d,F,G,k _ d (λf=>(i _ f).2.1 rfl) q,r⟩
 ·by_cases f:b=p
  ·subst f;rw[Bs] at q;cases q;exact A
  ·rw[Bo f] at q;refine(I.hok b u q).stay (λc v g z=>k c v (λj=>?_) z) (λc z=>by rw[Bo (e z)];exact z) λc D z=>by rw[Bo (e z)];exact z
   rcases g with z|z
   ·subst z;rw[(i _ j).1] at q;cases q
   ·rw[(i _ j).1] at z;cases z
def Inv.turnedF{X:Cx}{pins:List (Addr×Obj)}{σ:L2.St}{H:Hp}{s:Shared}{j:Heap}{i:List Addr}{t':Nat}(I:Inv X pins σ H s)(d:∀b∈i,FpOk X pins H b)(k:∀b l,b∉i->s.heap.get? b=some l->j.get? b=some l):Inv X pins σ H {s with heap:=j,toks:=t'}:=by
 refine I.step (g':=s.gens) (d':=s.drawn) (ch:=i) (λb g=>⟨(d b g).2.2.2.1,(d b g).2.1,(d b g).2.2.2.2.1,(d b g).2.2.2.2.2⟩) (λb o _ _ f e _=>k b o f e) (λb o _ _ f e _=>⟨o.slots,k b o f e⟩) (λ_ _ _ _ n=>n)
  (λb o f e=>⟨o,k b o f e⟩) (λ_ _ e=>e) (λ_ _ _ e=>e) (λb A e=>⟨#[],by rw[e];simp⟩) (λm h=>?_) (λb u e=>?_) I.bare
 ·obtain⟨o,p,t,w,r⟩:=h
  exact⟨o,p,t,k _ o (λg=>(d _ g).2.1 rfl) w,r⟩
 ·refine(I.hok b u e).stay (λc v f q=>k c v (λh=>?_) q) (λ_ q=>q) λ_ _ q=>q
  rcases f with z|z
  ·subst z;rw[(d _ h).1] at e;cases e
  ·rw[(d _ h).1] at z;cases z
def yfu:bootBuiltins "zip" = some (.type "zip"):=by decide +kernel
section
variable{X:Cx}{elts:List Expr}{x1:Nat}{tp:Pos}
end
open PySem L2 PyProof.Rows
def maxI:List Int->Option Int
 |[]=>none
 |[a]=>some a
 |a::l=>(maxI l).map λm=>if m<a then a else m
theorem zhm:∀{l:List Int}{m:Int},maxI l=some m->m∈l/\∀a∈l,a<=m
 |[],_,h=>by cases h
 |[a],m,h=>by cases h;exact⟨.head _,λb g=>by rw[Z0.mp g];exact Gw _⟩
 |a::b::l,m,h=>by
  unfold maxI at h;obtain⟨k,i,e⟩:=Zb.mp h
  obtain⟨j,f⟩:=zhm i
  by_cases z:k<a
  ·rw[if_pos z] at e;subst e;refine⟨.head _,λc d=>?_⟩
   rcases Zh.mp d with q|q
   ·omega
   ·have:=f c q;omega
  ·rw[if_neg z] at e;subst e;refine⟨.tail _ j,λc d=>?_⟩
   rcases Zh.mp d with q|q
   ·omega
   ·exact f c q
def zye{l:List Int}{m M:Int}(h:maxI l=some m)(d:M∈l)(e:∀a,a∈l->a<=M):M=m:=by
 obtain⟨a,b⟩:=zhm h
 have:=b M d
 have:=e m a
 omega
section
variable{X:Cx}
def yal(C:X.calm=true):zka X (.builtin "max") (λw H Q=>∃a l m,w=[.ref a]/\SqL X.K H a (l.map V.int)/\maxI l=some m/\Q (.int m) H):=by
 intro pins s O H w P Q I r ⟨a,l,m,e,D,z,q⟩;subst e;obtain⟨u,e,E⟩:=zkt r
 subst e;cases E;obtain⟨F,G,pl,R⟩:=I.list D
 obtain⟨d,J,g⟩:=zon G
 subst J;have L:s.heap.IsList a (intItems d.toArray):=by rw[yeq];exact pl.isList
 have n:0<d.length:=by
  cases d with
  |nil=>subst g;cases z
  |cons x d=>exact K0 _
 refine max_intList (I.ok.hd C) L (by simpa using n) λv S T M k=>?_;obtain⟨t,ev⟩:=intItems_at M
 have A:=argBest_gt (numAt d.toArray) (d.toArray.size-1);subst ev;refine⟨.int m,H,I.kept k,⟨t,?_⟩,q⟩
 congr 1
 have B:argBest (λi j=>decide (numAt d.toArray i > numAt d.toArray j)) (d.toArray.size-1)<d.length:=by
  have:=A.1
  simp only[Zt] at this |-;omega
 have f:∀i (h:i<d.length),numAt d.toArray i=(d[i]).1:=λi h=>by simp[numAt,h]
 subst g;refine zye z ?_ λb o=>?_
 ·rw[f _ B];exact Wp (Kf B)
 ·obtain⟨p,N,e⟩:=Zq.mp o
  obtain⟨i,h,g⟩:=Ki N
  subst g;subst e;have:=A.2 i (by simp only[Zt];omega)
  rw[f i h] at this;exact this
def yfx{l:List D}{d:List Int}{m:Int}(g:X.calm=true)(h:zqh l=some d)(i:maxI d=some m):zha X (.builtin "max") [.lst l] (.val (.int m)):=⟨_,yal g,λn o H F s t u Q R q k=>by
 obtain⟨v,e,q⟩:=q.one
 obtain⟨p,w,j,f,r⟩:=q.lst
 rw[j] at e;rw[zsm h r] at f;exact⟨p,d,m,e,R.sub.seq f,i,k _ H F (Same.refl _) R RW.int⟩⟩
end
def Itv(K:vE)(a:Addr)(d:List V):It:=
 ⟨λi H=>SqL K H a d/\∃x,d.reverse[i]? = some x,λi H x e=>e=H/\d.reverse[i]? = some x,λi H=>SqL K H a d/\d.length<=i⟩
def ybs{P:Program}{w:World}{K:vE}{U:Expr}(a m:Addr)(j:List V):Turn P w K U (Itv K a j) [m] m (λi h=>i<=j.length/\h.IsRevIter m a ((j.length:Int)-1-(i:Int))) where
 mem:=by simp
 obj:=λi h f b n=>by
  have e:b=m:=by simpa using n
  subst e;obtain⟨_,o,e,c,d⟩:=f
  exact⟨o,e,λv z=>by rw[d] at z;cases z⟩
 keep:=λi h t f k=>⟨f.1,f.2.at λo e=>k m vC o e⟩
 item:=by
  intro X B C D R i l s S H E I A f F;subst B C D;obtain⟨T,x,r⟩:=F
  obtain⟨Y,Z,p,hz⟩:=I.list T
  have G:i<j.length:=by have:=(Zo.mp r).1;rwa [Qq] at this
  rw[V9 G] at r;obtain⟨u,hu,ru⟩:=Z.get r
  obtain⟨J,L,f2,M,N,O⟩:=A m vC
  have Q:(j.length:Int)-1-(i:Int)=((j.length-1-i:Nat):Int):=by omega
  have g:=f.2;rw[Q] at g;refine wpAny_pyNext_rev_item g p.isList (x:=u) (by simpa using hu) λt q sb=>?_;have I1:Inv X l S H {s with heap:=t}:=I.turned (t':=s.toks) (λb o n e=>(sb.2 b n).trans e) J L M N O;obtain⟨o,e,c,d⟩:=id q
  have e3:((j.length-1-i:Nat):Int)-1=(j.length:Int)-1-((i+1:Nat):Int):=by omega
  rw[e3] at q;exact⟨u,rfl,yev (s:={s with heap:=t}) e c d vA ⟨x,H,I1,ru,⟨rfl,by rw[V9 G];exact r⟩,⟨G,q⟩,λb n=>(A b n).1⟩⟩
 done:=by
  intro X B C D R i l s S H E I A f F;subst B C D;obtain⟨T,r⟩:=F
  obtain⟨J,L,f2,M,N,O⟩:=A m vC
  have Q:(j.length:Int)-1-(i:Int) = -1:=by have:=f.1;omega
  have g:=f.2;rw[Q] at g;exact wpAny_pyNext_rev_end (I.ok.hd R) g λt eb=>⟨rfl,I.turned (t':=s.toks) (λb o n e=>eb b o n e) J L M N O⟩
 self:=λ_ _ _ _ _ f h=>wpAny_pyIter_revIter f.2 h
def zmn:bootBuiltins "reversed" = some (.type "reversed"):=by decide +kernel
section
variable{X:Cx}{tg a:Expr}{p pos:Pos}{ρ:Rho}
def iRev(K:vE)(f:TA):TI:=λg H R=>f g H λh d=>∃a e,h=[.ref a]/\SqL K d a e/\R (Itv K a e) d
def pi_rev{n:TA}(z:Gl X "reversed")(A:X.mg "reversed" = none)(B:PA X [a] n)(C:starEach [a] X.env=[(false,eval a X.env)]):PI X tg (.Call (.Name "reversed" p) [a] [] pos) (iRev X.K n):=by
 intro f s t H R I h;refine Call_ (zgn I z A zmn (Y4 (thn (B pos f s t H _ I h) λN g ⟨O,v,i,D,E⟩=>?_) (by rw[C];rfl) (by rfl)));obtain⟨l,w,e,F,q⟩:=E
 subst e;obtain⟨u,e,r⟩:=zkt D
 subst e;cases r;obtain⟨d,G,J,P⟩:=i.list F
 have j:d.toArray.size=w.length:=by simp[G.length]
 refine call_reversed_list J.isList ?_;have L:Inv X f t v {g with heap:=g.heap.push (revObj l ((d.toArray.size:Int)-1))}:=i.kept (t':=g.toks) λb o e=>Zf _ e
 have m:(g.heap.push (revObj l ((d.toArray.size:Int)-1))).IsRevIter g.heap.objs.size l ((d.toArray.size:Int)-1):=⟨_,Zy _ rfl,rfl,rfl⟩;refine wpAny_pyIter_revIter m ⟨_,[g.heap.objs.size],_,_,v,rfl,L,ybs l _ w,⟨Yr _,?_⟩,λb M=>?_,q⟩
 ·rw[j] at m |-;simpa using m
 ·have e:b=g.heap.objs.size:=by simpa using M
  subst e;exact i.fpOk (Zl _) (i.hok.fresh (Zl _))
def zvl{K:vE}{F:Hp}{a:Addr}{f:List V}{l:List D}(g:SqL K F a f)(r:DenL K F l f):Walks K F (Itv K a f) l.reverse:=λi q h=>⟨λd m=>by
 obtain⟨y,j,n⟩:=r.rev.get m
 refine⟨⟨h.seq g,y,j⟩,λx o ⟨p,ex⟩=>?_⟩
 rw[j] at ex;cases ex;exact .inl ⟨p,n⟩,λe=>⟨h.seq g,by
 rw[Qq] at e;rw[r.length];exact e⟩⟩
def DIe.rev{l:List D}(f:Gl X "reversed")(g:X.mg "reversed" = none)(h:DA X [a] ρ [.lst l])(i:Bm a=true):DIe X tg (.Call (.Name "reversed" p) [a] [] pos) ρ l.reverse:=λj m=>
 PI.mono (pi_rev f g (h j m) (by rw[Bu i];rfl)) λz H R ⟨F,n,k⟩=>⟨F,n,λA o s t R2 q=>by
  obtain⟨v,e,q⟩:=q.one
  obtain⟨a,u,w,d,r⟩:=q.lst
  subst w;exact⟨a,u,e,R2.sub.seq d,k _ o s t R2 (zvl d r)⟩⟩
end
open PySem L2 PyProof.Rows
structure BFacts(K:vE):Prop where
 ex:∃C,PySem.W.nsIn K mainGlobals "Bound" = some (some (.ref C))/\Cls K C/\∀f∈flds,NoAttr K C f
def zxl:Expr->Bool
 |.Name _ _=>true
 |.Subscript _ _ _=>true
 |_=>false
def zxk{o:Expr}{f:Str}{env:Env}(h:zxl o=true):attributeBase o f env (eval o env)=eval o env:=by
 cases o<;>first|rfl|(cases h;done)
def DE.fld{X:Cx}{o:Expr}{f:Str}{pos:Pos}{g:Rho}{a:Addr}{l:List D}{d:D}{j:Nat}(B:BFacts X.K)(p:DF X o g (.obj a l))(s:zxl o=true)(h:flds[j]? = some f)(t:l[j]? = some d):DE X (.Attribute o f pos) g (.val d):=λu w=>
 PE.mono (pe_fld (p u w) (zxk s)) λS H Q ⟨F,R,k⟩=>⟨F,R,λv A E G i I=>by
  obtain⟨e,C,J,m,T,c,q,L,r⟩:=I.obj
  obtain⟨U,n,M,N⟩:=B.ex
  rw[c] at n;cases n;obtain⟨y,O,P⟩:=r.get t
  have lk:m.lookup f=some y:=by
   have:=congrArg (λz=>z[j]?) L
   simp only[Zj,h,O,Wi] at this;exact Z3 this
  exact⟨a,C,J,m,y,e,i.sub _ _ q,M,N f (Yq h),lk,k y A E G i (RW.v P)⟩⟩
open PySem L2 PyProof.Rows
def SI:Bool->Heap->Addr->Addr->Nat->Array Value->Prop
 |true,h,i,l,k,d=>h.IsListIter i l k/\h.IsList l d
 |false,h,i,l,k,d=>h.IsTupleIter i l k/\h.IsTuple l d
def SQ:Bool->Heap->Addr->Array Value->Prop
 |true,h,l,d=>h.IsList l d
 |false,h,l,d=>h.IsTuple l d
theorem SI.at{h d:Heap}{i l:Addr}{k:Nat}{f:Array Value}:∀{b:Bool},SI b h i l k f->(∀o,h.get? i=some o->d.get? i=some o)->(∀o,h.get? l=some o->d.get? l=some o)->SI b d i l k f
 |true,⟨e,g⟩,a,b=>⟨e.at a,g.at b⟩
 |false,⟨e,⟨o,j,r⟩⟩,a,b=>⟨e.at a,o,b o j,r⟩
def itO(b:Bool)(l:Addr):Obj:={cls:=.type (if b=true then "list_iterator" else "tuple_iterator"),data:=.fields #[.ref l,.int 0 0]}
section
variable{prog:Program}{w:World}{A:Around}{E:Value->Shared->Prop}{s:Shared}
def ydu{f l:Addr}{i:Nat}{d:Array Value}{x:Value}{Q:Value->Shared->Prop}(e:s.heap.IsTupleIter f l i)(p:s.heap.IsTuple l d)(q:d[i]? = some x)
 (r:∀j,j.IsTupleIter f l (i+1)->Heap.SameBut f s.heap j->Q x {s with heap:=j}):wpAny (model prog w) A (Builtin.SmallTypes.nextOf (.ref f)) Q E s:=by
 obtain⟨o,h,t,g⟩:=id e
 obtain⟨u,m,_,v,n⟩:=p
 unfold Builtin.SmallTypes.nextOf;refine Zd (wpAny_callSpecial?_slot (name:=Str.ofString "__next__") e.typeIs Kc (Q0 Kc e.typeIs Vv ?_ (Vp _)));show wpAny _ _ (field (.ref f) 0 >>= _) _ _ s;refine Zd (Wd h g (x:=.ref l) rfl ?_);show wpAny _ _ (if (Value.ref l == Value.none)=true then _ else _) _ _ s;rw[if_neg (show ¬((Value.ref l == Value.none)=true) from Zw)];show wpAny _ _ (field (.ref f) 1 >>= _) _ _ s;refine Zd (Wd h g (x:=.int i 0) rfl ?_);show wpAny _ _ (seqItems? (.ref l) >>= _) _ _ s;refine Zd (Wo m n ?_);simp only[Z8,q];refine Zd (wpAny_setField h g vC (Zs ⟨x,rfl,Zs (r _ ?_ (Kt ..))⟩));exact⟨_,Wv _ h (Obj.isFreed_of_fields (G5 g _)),(Obj.cls_mapFields ..).trans t,by rw[G5 g];simp[rawInt]⟩
def zxu{g l:Addr}{i:Nat}{d:Array Value}{x:Value}{Q:Value->Shared->Prop}{b:Bool}(h:SI b s.heap g l i d)(j:l≠g)(m:d[i]? = some x)
 (n:∀f,SI b f g l (i+1) d->Heap.SameBut g s.heap f->Q x {s with heap:=f}):wpAny (model prog w) A (Builtin.SmallTypes.nextOf (.ref g)) Q E s:=by
 cases b with
 |true=>exact Ub h.1 h.2 m λf a k=>n f ⟨a,h.2.at λo e=>(k.2 l j).trans e⟩ k
 |false=>
  refine ydu h.1 h.2 m λf a k=>n f ⟨a,?_⟩ k
  obtain⟨o,p,r⟩:=h.2
  exact⟨o,(k.2 l j).trans p,r⟩
def zuv{g l:Addr}{i:Nat}{d:Array Value}{Q:Value->Shared->Prop}(r:A.handled=none)(f:s.heap.IsTupleIter g l i)(t:s.heap.IsTuple l d)(u:d[i]? = none)
 (v:∀h e,Heap.ExtBut g s.heap h->(∃o,h.get? e=some o/\o.cls=.type "StopIteration")->E (.ref e) {s with heap:=h}):wpAny (model prog w) A (Builtin.SmallTypes.nextOf (.ref g)) Q E s:=by
 obtain⟨o,j,z,n⟩:=id f
 obtain⟨B,p,_,C,q⟩:=t
 unfold Builtin.SmallTypes.nextOf;refine Zd (wpAny_callSpecial?_slot (name:=Str.ofString "__next__") f.typeIs Kc (Q0 Kc f.typeIs Vv ?_ (Vp _)));show wpAny _ _ (field (.ref g) 0 >>= _) _ _ s;refine Zd (Wd j n (x:=.ref l) rfl ?_);show wpAny _ _ (if (Value.ref l == Value.none)=true then _ else _) _ _ s;rw[if_neg (show ¬((Value.ref l == Value.none)=true) from Zw)];show wpAny _ _ (field (.ref g) 1 >>= _) _ _ s;refine Zd (Wd j n (x:=.int i 0) rfl ?_);show wpAny _ _ (seqItems? (.ref l) >>= _) _ _ s;refine Zd (Wo p q ?_);simp only[Z8,u];refine Zd (Js (Zd (wpAny_setField j n vC ?_)));show wpAny _ _ (newExc (.type "StopIteration") [] >>= _) _ _ _;refine Zd ?_;simp only[newExc,newTuple];refine Zd (Jt ?_ (by size_fits));refine Zd (m:=firstArgMember _ _) (wpAny_of_eq (a:=Value.none) (by first|rfl|(simp only[firstArgMember];rfl)) ?_);refine Jt ?_ (by size_fits);simp only[raiseNew];refine Zd (wpAny_handled ?_);first|rw[show A.in1.handled=none from r]|rw[r]
 refine Zd (Zs (wpAny_throw ?_));exact v _ _ (((Kt ..).extBut.push _).push _) ⟨_,Zy _ rfl,rfl⟩
def nx_end{f l:Addr}{i:Nat}{d:Array Value}{Q:Value->Shared->Prop}{b:Bool}(j:A.handled=none)(h:SI b s.heap f l i d)(m:d[i]? = none)
 (n:∀g e,Heap.ExtBut f s.heap g->(∃o,g.get? e=some o/\o.cls=.type "StopIteration")->E (.ref e) {s with heap:=g}):wpAny (model prog w) A (Builtin.SmallTypes.nextOf (.ref f)) Q E s:=by
 cases b with
 |true=>exact G9 j h.1 h.2 m n
 |false=>exact zuv j h.1 h.2 m n
def yho{l:Addr}{e:Array Value}{Q:Value->Shared->Prop}{b:Bool}(h:SQ b s.heap l e)(d:Q (.ref s.heap.objs.size) {s with heap:=s.heap.push (itO b l)}):wpAny (model prog w) A (pyIter (.ref l)) Q E s:=by
 cases b with
 |true=>exact Vd h d
 |false=>exact wpAny_pyIter_tuple h d
def yir{z TI TO n p l1 l2:Addr}{U V:Bool}{N O:Nat}{P R:Array Value}{x y a b:Value}{Q:Option Value->Shared->Prop}(D:ZipApart z TI TO n p l1 l2)(C:IsZip s.heap z TI TO .none)(W:IsPair s.heap TI (.ref n) (.ref p))(X:IsPair s.heap TO a b)
 (h1:SI U s.heap n l1 N P)(h2:SI V s.heap p l2 O R)(hx:P[N]? = some x)(hy:R[O]? = some y)
 (hQ:∀u,IsZip u z TI TO (rawInt s.heap.objs.size)->IsPair u TO x y->SI U u n l1 (N+1) P->SI V u p l2 (O+1) R->IsPair u s.heap.objs.size x y ->
   (∀c o,c≠z->c≠TO->c≠n->c≠p->s.heap.get? c=some o->u.get? c=some o)->Q (some (.ref s.heap.objs.size)) {s with heap:=u}):
  wpAny (model prog w) A (pyNext (.ref z)) Q E s:=by
 have F:s.TypeIs (.ref z) "zip" := ⟨_,C,rfl⟩;unfold pyNext;refine Zd (U5 (wpAny_callSpecial?_slot (name:=Str.ofString "__next__") F Qo (Q0 Qo F Jv ?_ (Jr _))));show wpAny _ _ (field (.ref z) 2 >>= _) _ _ _;refine Zd (Wd C rfl (x:=.bool false) rfl ?_);show wpAny _ _ (field (.ref z) 3 >>= _) _ _ _;refine Zd (Wd C rfl (x:=.ref TI) rfl ?_);refine Zd (Wo W rfl ?_);show wpAny _ _ (Builtin.SmallTypes.ownedTupleIsFree (.ref z) >>= _) _ _ _;refine Zd ?_;unfold Builtin.SmallTypes.ownedTupleIsFree;refine Zd (Wd C rfl (x:=.none) rfl (Zs ?_));simp only[if_true];refine Zd (Js ?_);refine Zd (Wd C rfl (x:=.ref TO) rfl ?_);refine Zd (Q3 C vC λg1 v G=>?_);replace v:IsZip g1 z TI TO .ellipsis:=v
 refine Zd ?_;simp only[Uz,List.zipIdx_nil,K9,Ud];refine Zd (Zd (Go ?_));show wpAny _ _ (Builtin.SmallTypes.nextOf (.ref n) >>= _) _ _ _;have Y:∀c o,c≠z->s.heap.get? c=some o->g1.get? c=some o:=λc o h e=>G.extBut _ _ h e
 refine Zd (zxu (h1.at (λo e=>Y _ o D.i1z e) λo e=>Y _ o D.l1z e) D.l1i1 hx λg2 Z B=>Zs ?_);have e2:∀c o,c≠z->c≠n->s.heap.get? c=some o->g2.get? c=some o:=λc o h q e=>B.extBut _ _ q (Y c o h e)
 have r:IsPair g2 TO a b:=e2 _ _ D.TOz D.TOi1 X;refine Zd (Wo r rfl ?_);refine Zd (wpAny_updateSeq_pair r λg3 l m=>?_);replace l:IsPair g3 TO x b:=l
 refine Zd (Jh (Zs ?_));refine Zd (Zd (Go ?_));show wpAny _ _ (Builtin.SmallTypes.nextOf (.ref p) >>= _) _ _ _;have e3:∀c o,c≠z->c≠n->c≠TO->s.heap.get? c=some o->g3.get? c=some o:=λc o h q H e=>m.extBut _ _ H (e2 c o h q e)
 refine Zd (zxu (h2.at (λo e=>e3 _ o D.i2z D.i12.symm D.TOi2.symm e) λo e=>e3 _ o D.l2z D.l2i1 D.l2TO e) D.l2i2 hy λg4 a0 i=>Zs ?_);have t:IsPair g4 TO x b:=i.extBut _ _ D.TOi2 l;refine Zd (Wo t rfl ?_);refine Zd (wpAny_updateSeq_pair t λf g d=>?_);replace g:IsPair f TO x y:=g
 refine Zd (Jh (Zs (Zs ?_)));refine Zd (Wo g rfl ?_);refine Zd (Gc ?_);have I:f.objs.size=s.heap.objs.size:=by rw[d.1,i.1,m.1,B.1,G.1]
 have z5:IsZip f z TI TO .ellipsis:=d.extBut _ _ D.TOz.symm (i.extBut _ _ D.i2z.symm (m.extBut _ _ D.TOz.symm (B.extBut _ _ D.i1z.symm v)));have e5:∀c o,c≠z->c≠TO->c≠n->c≠p->s.heap.get? c=some o->f.get? c=some o:=λc o h q H c4 e=>d.extBut _ _ q (i.extBut _ _ c4 (e3 c o h H q e))
 have a1:SI U f n l1 (N+1) P:=Z.at (λo e=>d.extBut _ _ D.TOi1.symm (i.extBut _ _ D.i12 (m.extBut _ _ D.TOi1.symm e))) λo e=>d.extBut _ _ D.l1TO (i.extBut _ _ D.l1i2 (m.extBut _ _ D.l1TO e))
 have a2:SI V f p l2 (O+1) R:=a0.at (λo e=>d.extBut _ _ D.TOi2.symm e) λo e=>d.extBut _ _ D.l2TO e
 have J:z<f.objs.size:=Zn z5;show wpAny _ _ (Builtin.SmallTypes.ownedTupleHandOut (.ref z) (.ref f.objs.size) >>= _) _ _ _;refine Zd ?_;unfold Builtin.SmallTypes.ownedTupleHandOut;have z6:IsZip (f.push {cls:=.type "tuple",data:=.seq #[x,y]}) z TI TO .ellipsis:=Zf _ z5;refine Zd (Q3 z6 vC λg7 z7 K=>?_);replace z7:IsZip g7 z TI TO (rawInt f.objs.size):=z7
 refine Q3 z7 vC λS T L=>?_;replace T:IsZip S z TI TO (rawInt f.objs.size):=T
 have j:∀c o,c≠z->f.get? c=some o->S.get? c=some o:=λc o h e=>L.extBut _ _ h (K.extBut _ _ h (Zf _ e))
 have M:IsPair S f.objs.size x y:=L.extBut _ _ (Yb J) (K.extBut _ _ (Yb J) (Zy _ rfl));rw[I] at T M;refine Zs ⟨_,rfl,Zs ?_⟩;show Q (some (.ref f.objs.size)) _;rw[I];exact hQ S T (j _ _ D.TOz g) (a1.at (λo e=>j _ o D.i1z e) λo e=>j _ o D.l1z e) (a2.at (λo e=>j _ o D.i2z e) λo e=>j _ o D.l2z e) M λc o h q H c4 e=>j c o h (e5 c o h q H c4 e)
def zi_end{z TI TO h B l1 l2:Addr}{J:Bool}{C:Nat}{F:Array Value}{a b:Value}{Q:Option Value->Shared->Prop}(G:A.handled=none)(D:ZipApart z TI TO h B l1 l2)(g:IsZip s.heap z TI TO .none)(r:IsPair s.heap TI (.ref h) (.ref B))(K:IsPair s.heap TO a b)
 (L:SI J s.heap h l1 C F)(M:F[C]? = none)
 (N:∀H,(∀c o,c≠z->c≠h->s.heap.get? c=some o->H.get? c=some o)->Q none {s with heap:=H}):wpAny (model prog w) A (pyNext (.ref z)) Q E s:=by
 have i:s.TypeIs (.ref z) "zip" := ⟨_,g,rfl⟩;unfold pyNext;refine Zd (U5 (wpAny_callSpecial?_slot (name:=Str.ofString "__next__") i Qo (Q0 Qo i Jv ?_ (Jr _))));show wpAny _ _ (field (.ref z) 2 >>= _) _ _ _;refine Zd (Wd g rfl (x:=.bool false) rfl ?_);show wpAny _ _ (field (.ref z) 3 >>= _) _ _ _;refine Zd (Wd g rfl (x:=.ref TI) rfl ?_);refine Zd (Wo r rfl ?_);show wpAny _ _ (Builtin.SmallTypes.ownedTupleIsFree (.ref z) >>= _) _ _ _;refine Zd ?_;unfold Builtin.SmallTypes.ownedTupleIsFree;refine Zd (Wd g rfl (x:=.none) rfl (Zs ?_));simp only[if_true];refine Zd (Js ?_);refine Zd (Wd g rfl (x:=.ref TO) rfl ?_);refine Zd (Q3 g vC λI d t=>?_);replace d:IsZip I z TI TO .ellipsis:=d
 refine Zd ?_;simp only[Uz,List.zipIdx_nil,K9,Ud];refine Zd (Zd (Go ?_));show wpAny _ _ (Builtin.SmallTypes.nextOf (.ref h) >>= _) _ _ _;have u:∀c o,c≠z->s.heap.get? c=some o->I.get? c=some o:=λc o p e=>t.extBut _ _ p e
 refine Zd (nx_end (by first|exact G|simp[G]) (L.at (λo e=>u _ o D.i1z e) λo e=>u _ o D.l1z e) M λO e j P=>?_);obtain⟨R,f,l⟩:=P
 have m:IsZip O z TI TO .ellipsis:=j _ _ D.i1z.symm d;have v:e≠z:=λx=>by subst x;rw[m] at f;cases f;simp at l
 refine Q3 m vC λg3 _ n=>?_;refine Zd (wpAny_isInstance (T := "StopIteration") (b:=true) ⟨R,n.extBut _ _ v f,l⟩ isSubtype_stop ?_);exact Zs (N _ λc o p S q=>n.extBut _ _ p (j _ _ S (u c o p q)))
end
open PySem L2 PyProof.Rows
abbrev zh1(h:Heap)(d:Bool)(l1:Addr):Heap:=h.push (itO d l1)
abbrev zh2(h:Heap)(d e:Bool)(l1 l2:Addr):Heap:=(zh1 h d l1).push (itO e l2)
abbrev zh3(h:Heap)(d e:Bool)(l1 l2:Addr):Heap:=(zh2 h d e l1 l2).push {cls:=.type "tuple",data:=.seq #[.ref h.objs.size,.ref (zh1 h d l1).objs.size]}
abbrev zh4(h:Heap)(d e:Bool)(l1 l2:Addr):Heap:=(zh3 h d e l1 l2).push {cls:=.type "tuple",data:=.seq #[.none,.none]}
abbrev zh5(h:Heap)(d e:Bool)(l1 l2:Addr):Heap:=(zh4 h d e l1 l2).push {cls:=.type "zip",data:=.fields #[.none,.bool false,.bool false,.ref (zh2 h d e l1 l2).objs.size,.ref (zh3 h d e l1 l2).objs.size]}
theorem SQ.push{h:Heap}{l:Addr}{d:Array Value}{o:Obj}:∀{b:Bool},SQ b h l d->SQ b (h.push o) l d
 |true,q=>Heap.IsList.push q _
 |false,q=>Heap.IsTuple.push q _
def yee(l1 l2:Addr)(e f:Bool)(i j:Array Value):
  Meets (Builtin.«zip.__new__» ⟨[.type "zip", .ref l1,.ref l2],[]⟩) (λ_ R s=>SQ e s.heap l1 i/\SQ f s.heap l2 j/\R (.ok (.ret (.ref (zh4 s.heap e f l1 l2).objs.size))) {s with heap:=zh5 s.heap e f l1 l2}):=
 .of_wp λl w A R s h=>by
  obtain⟨m,g,d,n,os⟩:=s
  obtain⟨p,q,h⟩:=h
  have o:=sub_zip;have r:SQ e (Shared.heap ⟨m,g,d,n,os⟩) l1 i:=p;have t:SQ f (Shared.heap ⟨m.push (itO e l1),g,d,n,os⟩) l2 j:=SQ.push q;wp_walk using yho r,yho t
  exact⟨_,rfl,h⟩
section
variable{prog:Program}{w:World}{A:Around}{E:Value->Shared->Prop}{s:Shared}
theorem SI.new{h:Heap}{i l:Addr}{d:Array Value}:∀{b:Bool},h.get? i=some (itO b l)->SQ b h l d->SI b h i l 0 d
 |true,e,q=>⟨⟨_,e,rfl,rfl⟩,q⟩
 |false,e,q=>⟨⟨_,e,rfl,rfl⟩,q⟩
theorem SQ.at{h d:Heap}{l:Addr}{e:Array Value}:∀{b:Bool},SQ b h l e->(∀o,h.get? l=some o->d.get? l=some o)->SQ b d l e
 |true,q,k=>Heap.IsList.at q k
 |false,⟨o,f,r⟩,k=>⟨o,k o f,r⟩
def yof{l1 l2:Addr}{d f:Bool}{i j:Array Value}{Q:Value->Shared->Prop}(r:SQ d s.heap l1 i)(t:SQ f s.heap l2 j)
 (h:∀g,IsZip g (s.heap.objs.size+4) (s.heap.objs.size+2) (s.heap.objs.size+3) .none->IsPair g (s.heap.objs.size+2) (.ref s.heap.objs.size) (.ref (s.heap.objs.size+1)) ->
   IsPair g (s.heap.objs.size+3) .none .none->SI d g s.heap.objs.size l1 0 i->SI f g (s.heap.objs.size+1) l2 0 j ->
   (∀c o,s.heap.get? c=some o->g.get? c=some o)->Q (.ref (s.heap.objs.size+4)) {s with heap:=g}):
  wpAny (model prog w) A (call (.type "zip") [.ref l1,.ref l2]) Q E s:=by
 refine callType_new F.called_zip vA (F.typeCall_zip_2 _ _) (F.newCall_zip_2 _ _) (λl=>F.args_object_init_3 l _ _) F.entry_zip_new (yee l1 l2 d f i j) ⟨r,t,?_⟩;have m:(zh1 s.heap d l1).objs.size=s.heap.objs.size+1:=Qw ..;have n:(zh2 s.heap d f l1 l2).objs.size=s.heap.objs.size+2:=by rw[Qw,m]
 have p:(zh3 s.heap d f l1 l2).objs.size=s.heap.objs.size+3:=by rw[Qw,n]
 have u:(zh4 s.heap d f l1 l2).objs.size=s.heap.objs.size+4:=by rw[Qw,p]
 have up:∀c o,s.heap.get? c=some o->(zh5 s.heap d f l1 l2).get? c=some o:=λc o e=>Zf _ (Zf _ (Zf _ (Zf _ (Zf _ e))))
 have q:(zh5 s.heap d f l1 l2).get? (zh4 s.heap d f l1 l2).objs.size=some _:=Zy _ rfl;have v:(zh5 s.heap d f l1 l2).get? (zh3 s.heap d f l1 l2).objs.size=some _:=Zf _ (Zy _ rfl);have g3:(zh5 s.heap d f l1 l2).get? (zh2 s.heap d f l1 l2).objs.size=some _:=Zf _ (Zf _ (Zy _ rfl));have z:(zh5 s.heap d f l1 l2).get? (zh1 s.heap d l1).objs.size=some (itO f l2):=Zf _ (Zf _ (Zf _ (Zy _ rfl)));have B:(zh5 s.heap d f l1 l2).get? s.heap.objs.size=some (itO d l1):=Zf _ (Zf _ (Zf _ (Zf _ (Zy _ rfl))));show _/\_;rw[n,p,u] at q;rw[m,n] at g3;rw[p] at v;rw[m] at z;rw[u];exact⟨⟨_,q,rfl⟩,h _ q g3 v (SI.new B (r.at λo e=>up _ o e)) (SI.new z (t.at λo e=>up _ o e)) up⟩
end
def SqB(K:vE)(H:Hp):Bool->Addr->List V->Prop
 |true,a,d=>SqL K H a d
 |false,a,d=>SqT K H a d
theorem zom{X:Cx}{e:List (Addr×Obj)}{i:L2.St}{H:Hp}{s:Shared}(I:Inv X e i H s){a:Addr}{g:List V}:∀{b:Bool},SqB X.K H b a g->∃d:List Value,Vals g d/\SQ b s.heap a d.toArray
 |true,h=>by
  obtain⟨d,f,p,_⟩:=I.list h
  exact⟨d,f,p.isList⟩
 |false,h=>by
  obtain⟨d,f,p,_⟩:=I.tuple h
  exact⟨d,f,p⟩
def Izg(K:vE)(f g:Bool)(a b:Addr)(d e:List V):It:=
 ⟨λi H=>SqB K H f a d/\SqB K H g b e/\(∃x y,d[i]? = some x/\e[i]? = some y),λi H z h=>∃p x y,H p=none/\z=.ref p/\h=upd H p (.tup [x,y])/\d[i]? = some x/\e[i]? = some y,λi H=>SqB K H f a d/\d.length<=i⟩
def IT:Bool->Heap->Addr->Addr->Nat->Prop
 |true,h,i,l,k=>h.IsListIter i l k
 |false,h,i,l,k=>h.IsTupleIter i l k
theorem IT.si{h:Heap}{i l:Addr}{k:Nat}{d:Array Value}:∀{b:Bool},IT b h i l k->SQ b h l d->SI b h i l k d
 |true,a,q=>⟨a,q⟩
 |false,a,q=>⟨a,q⟩
theorem SI.it{h:Heap}{i l:Addr}{k:Nat}{d:Array Value}:∀{b:Bool},SI b h i l k d->IT b h i l k
 |true,h=>h.1
 |false,h=>h.1
theorem IT.at{h d:Heap}{i l:Addr}{k:Nat}:∀{b:Bool},IT b h i l k->(∀o,h.get? i=some o->d.get? i=some o)->IT b d i l k
 |true,a,e=>Heap.IsListIter.at a e
 |false,a,e=>Heap.IsTupleIter.at a e
theorem IT.obj{h:Heap}{i l:Addr}{k:Nat}:∀{b:Bool},IT b h i l k->∃o,h.get? i=some o/\∀v,o.data ≠ .cell v
 |true,⟨o,e,c,d⟩=>⟨o,e,λv z=>by rw[d] at z;cases z⟩
 |false,⟨o,e,c,d⟩=>⟨o,e,λv z=>by rw[d] at z;cases z⟩
def yiy{P:Program}{w:World}{K:vE}{F:List Expr}{x1}{tp:Pos}(b1 b2:Bool)(l1 l2 z TI TO r t:Addr)(xs ys:List V)(D:ZipApart z TI TO r t l1 l2):
  Turn P w K (.Tuple F x1 tp) (Izg K b1 b2 l1 l2 xs ys) [z,TI,TO,r,t] z (λi h=>IsZip h z TI TO .none/\IsPair h TI (.ref r) (.ref t)/\(∃a b,IsPair h TO a b)/\IT b1 h r l1 i/\IT b2 h t l2 i) where
 mem:=by simp
 obj:=λi h f b l=>by
  obtain⟨m,u,⟨a,c,N⟩,O,Q⟩:=f
  simp only[Zh,Zr,or_false] at l;rcases l with e|e|e|e|e<;>subst e
  ·exact⟨_,m,λv z=>by cases z⟩
  ·exact⟨_,u,λv z=>by cases z⟩
  ·exact⟨_,N,λv z=>by cases z⟩
  ·exact O.obj
  ·exact Q.obj
 keep:=λi h R f k=>by
  obtain⟨m,u,⟨a,c,N⟩,O,Q⟩:=f
  exact⟨k z vC _ m,k TI vC _ u,⟨a,c,k TO vC _ N⟩,O.at λo q=>k r vC o q,Q.at λo q=>k t vC o q⟩
 item:=by
  intro X S T U hc i p s σ H E I J f Y;subst S T U;obtain⟨L,d,⟨a,c,g⟩,m,u⟩:=f
  obtain⟨A,Z,x,y,hx,hy⟩:=Y
  obtain⟨G,B,p1⟩:=zom I A
  obtain⟨ae,a0,p2⟩:=zom I Z
  obtain⟨u1,a6,a7⟩:=B.get hx
  obtain⟨u2,a8,a9⟩:=a0.get hy
  refine yir D L d g (m.si p1) (u.si p2) (by simpa using a6) (by simpa using a8) λR a1 a2 a3 a4 a5 M=>⟨_,rfl,?_⟩
  refine wpAny_letOwnedTupleGo_zip a1 λj aa ab=>?_;have zl:z<s.heap.objs.size:=Zn L;have lt:∀b∈[z,TI,TO,r,t],b<s.heap.objs.size:=λb l=>by
   simp only[Zh,Zr,or_false] at l;rcases l with e|e|e|e|e<;>subst e
   ·exact zl
   ·exact Zn d
   ·exact Zn g
   ·obtain⟨o,q,_⟩:=m.obj;exact Zn q
   ·obtain⟨o,q,_⟩:=u.obj;exact Zn q
  have up:∀b o,b≠z->R.get? b=some o->j.get? b=some o:=λb o n q=>(ab.2 b n).trans q
  have ht:j.get? s.heap.objs.size=some {cls:=.type "tuple",data:=.seq #[u1,u2]}:=up _ _ (Yb zl) a5;have hk:∀b C,b∉[z,TI,TO,r,t]->s.heap.get? b=some C->j.get? b=some C:=λb C n q=>by
   simp only[Zh,Zr,or_false,not_or] at n;exact up b C n.1 (M b C n.1 n.2.2.1 n.2.2.2.1 n.2.2.2.2 q)
  have I2:Inv X p σ (upd H s.heap.objs.size (.tup [x,y])) {s with heap:=j,toks:=s.toks}:=
   Inv.turnedN I J hk (Zl _) ⟨by show 2<=sizeLine;decide,[u1,u2],.cons a7 #v[a9],⟨_,ht,rfl,_,rfl⟩⟩
  refine⟨.ref s.heap.objs.size,_,I2,rfl,⟨_,x,y,I.hok.fresh (Zl _),rfl,rfl,hx,hy⟩,⟨aa,up _ _ D.TIz (M _ _ D.TIz D.TITO D.TIi1 D.TIi2 d),⟨_,_,up _ _ D.TOz a2⟩,a3.it.at λo q=>up _ o D.i1z q,a4.it.at λo q=>up _ o D.i2z q⟩,λb l=>?_⟩
  rw[Bo (Yh (lt b l))];exact(J b l).1
 done:=by
  intro X S T U hc i p s σ H E I J f Y;subst S T U;obtain⟨L,d,⟨a,c,g⟩,m,u⟩:=f
  obtain⟨A,hx⟩:=Y
  obtain⟨G,B,p1⟩:=zom I A
  have hl:=B.length;refine zi_end (I.ok.hd hc) D L d g (m.si p1) (by simp;omega) λR M=>⟨rfl,?_⟩
  exact Inv.turnedF (t':=s.toks) I J λb C n q=>by
   simp only[Zh,Zr,or_false,not_or] at n;exact M b C n.1 n.2.2.2.1 q
 self:=λ_ _ _ _ _ f h=>Vq f.1 h
theorem SqB.mono{K:vE}{F H:Hp}(s:Same F H){a:Addr}{d:List V}:∀{b:Bool},SqB K F b a d->SqB K H b a d
 |true,h=>s.seq h
 |false,h=>Same.tup s h
section
variable{X:Cx}{elts:List Expr}{x1:Nat}{tp:Pos}
def iZg(K:vE)(i:TA):TI:=λj H R=>i j H λl d=>∃e f a b g h,l=[.ref a,.ref b]/\SqB K d e a g/\SqB K d f b h/\R (Izg K e f a b g h) d
def pi_zg{a b:Expr}{w:TA}{p pos:Pos}(J:Gl X "zip")(L:X.mg "zip" = none)(M:PA X [a,b] w)(N:starEach [a,b] X.env=[(false,eval a X.env),(false,eval b X.env)])(g:starEach [b] X.env=[(false,eval b X.env)]):PI X (.Tuple elts x1 tp) (.Call (.Name "zip" p) [a,b] [] pos) (iZg X.K w):=by
 intro f s z H R I h;refine Call_ (zgn I J L yfu (Y4 (thn (M pos f s z H _ I h) λus d ⟨vs,A,i,O,P⟩=>?_) (by rw[N,g]) (by rw[g];rfl)));obtain⟨Q,S,l,m,T,U,e,V,n,q⟩:=P
 subst e;obtain⟨u,u2,e,r,W⟩:=yiw O
 subst e;cases r;cases W;obtain⟨Y,rv,B⟩:=zom i V
 obtain⟨C,Z,D⟩:=zom i n
 have lt:∀{b:Bool}{c:Addr}{E:Array Value},SQ b d.heap c E->c<d.heap.objs.size:=λ{b c E} k=>by
  cases b with
  |true=>obtain⟨o,t,_⟩:=k;exact Zn t
  |false=>obtain⟨o,t,_⟩:=k;exact Zn t
 refine yof B D λh1 F g2 g3 g4 g5 v=>?_;have I2:Inv X f z A {d with heap:=h1}:=i.kept (t':=d.toks) v;refine Vq F ⟨_,[d.heap.objs.size+4,d.heap.objs.size+2,d.heap.objs.size+3,d.heap.objs.size,d.heap.objs.size+1],_,_,A,rfl,I2,yiy Q S l m _ _ _ _ _ T U (ygq (lt B) (lt D)),⟨F,g2,⟨_,_,g3⟩,g4.it,g5.it⟩,λb G=>?_,q⟩;have j:d.heap.objs.size<=b:=by
  simp only[Zh,Zr,or_false] at G;rcases G with e|e|e|e|e<;>subst e
  ·exact Qu _ _
  ·exact Qu _ _
  ·exact Qu _ _
  ·exact Zl _
  ·exact Qu _ _
 exact i.fpOk j (i.hok.fresh j)
def zrl{K:vE}{F:Hp}{t u:Bool}{a b:Addr}{g h:List V}{l m:List D}(v:SqB K F t a g)(j:SqB K F u b h)(r:DenL K F l g)(C:DenL K F m h)(N:l.length=m.length):Walks K F (Izg K t u a b g h) (zipD l m):=λi O n=>⟨λd o=>by
 unfold zipD at o;rw[Zj] at o;obtain⟨q,s,e⟩:=Zb.mp o
 rw[Kb] at s;obtain⟨E,w,G⟩:=r.get s.1
 obtain⟨H,z,I⟩:=C.get s.2
 subst e;refine⟨⟨v.mono n,j.mono n,E,H,w,z⟩,λx J ⟨p,P,Q,L,ex,M,A,B⟩=>?_⟩
 rw[w] at A;rw[z] at B;cases A;cases B;exact .inr ⟨p,_,[q.1,q.2],L,M,ex,rfl,DenL.cons G (DenL.cons I DenL.nil)⟩,λf=>⟨v.mono n,by
 unfold zipD at f;rw[Zc,Ju] at f;have:=r.length
 omega⟩⟩
def sqD:D->Option (List D)
 |.lst l=>some l
 |.tup l=>some l
 |_=>none
def zla{K:vE}{F:Hp}{d:D}{l:List D}{v:V}(h:sqD d=some l)(q:Den K F d v):∃b a f,v=.ref a/\SqB K F b a f/\DenL K F l f:=by
 cases d<;>first|(cases h;done)|skip
 ·cases h;obtain⟨a,f,e,g,r⟩:=q.tup
  exact⟨false,a,f,e,g,r⟩
 ·cases h;obtain⟨a,f,e,g,r⟩:=q.lst
  exact⟨true,a,f,e,g,r⟩
def DI.zg{a b:Expr}{p pos:Pos}{h i:D}{l m:List D}{g:RhoS}(n:Gl X "zip")(o:X.mg "zip" = none)(s:DA X [a,b] (view g) [h,i])(t:sqD h=some l)(w:sqD i=some m)(z:Bm a=true)(d:Bm b=true)(A:l.length=m.length):
  DI X (.Tuple elts x1 tp) (.Call (.Name "zip" p) [a,b] [] pos) g (zipD l m) (frz g):=λB C=>
 PI.mono (pi_zg n o (s B C) (by rw[Bu z,Bu d];rfl) (by rw[Bu d];rfl)) λY H R ⟨F,S,k⟩=>by
  obtain⟨Z,E⟩:=S.borrow
  refine⟨_,E,λvs G I J R2 q=>?_⟩
  obtain⟨K,L⟩:=S.freeze J R2
  obtain⟨v,u,e,M,N⟩:=q.two
  obtain⟨O,a,P,Q,j,r⟩:=zla t M
  obtain⟨T,b,U,V,f,W⟩:=zla w N
  subst Q;subst V;exact⟨O,T,a,b,P,U,e,j.mono R2.sub,f.mono R2.sub,k _ G I K L (zrl j f r W A)⟩
def DIe.zg{a b:Expr}{p pos:Pos}{g h:D}{l m:List D}{i:Rho}(n:Gl X "zip")(o:X.mg "zip" = none)(s:DA X [a,b] i [g,h])(t:sqD g=some l)(w:sqD h=some m)(z:Bm a=true)(d:Bm b=true)(A:l.length=m.length):
  DIe X (.Tuple elts x1 tp) (.Call (.Name "zip" p) [a,b] [] pos) i (zipD l m):=λB C=>
 PI.mono (pi_zg n o (s B C) (by rw[Bu z,Bu d];rfl) (by rw[Bu d];rfl)) λU H R ⟨F,E,k⟩=>⟨F,E,λV G I J R2 q=>by
  obtain⟨v,u,e,K,L⟩:=q.two
  obtain⟨M,a,N,O,j,r⟩:=zla t K
  obtain⟨P,b,Q,S,f,T⟩:=zla w L
  subst O;subst S;exact⟨M,P,a,b,N,Q,e,j.mono R2.sub,f.mono R2.sub,k _ G I J R2 (zrl j f r T A)⟩⟩
end
open PySem L2 PyProof.Rows
section
variable{prog:Program}{w:World}{A:Around}{E:Value->Shared->Prop}{s:Shared}
def zua{l:Addr}{f:List (List Int×Addr)}{Q:Value->Shared->Prop}(G:s.heap.IsList l (f.map λx=>Value.ref x.2).toArray)(t:∀x∈f,IsTK prog w s.heap x.1 x.2/\isPr x.1=true)(H:(f.map (·.1)).Nodup)(u:f.length<64)
 (h:∀v I D (i:List (List Int×Addr)) n,i.Perm f->i.Pairwise (λx y=>ltK x.1 y.1=true)->v.get? D=some (seqObj "list" (i.map λx=>Value.ref x.2).toArray n)->s.heap.objs.size<=D->(∀b o,s.heap.get? b=some o->v.get? b=some o)->Q (.ref D) {s with heap:=v,toks:=I}):
  wpAny (model prog w) A (call (.builtin "sorted") [.ref l]) Q E s:=by
 refine Calls.call_function_entry kind_sorted plain_sorted entry_sorted (args_sorted1 _) ?_;unfold Builtin.«sorted»;refine Zd (m:=checkCount "sorted" 1 1 _) (Zs ?_);refine Zd (collect_list G ?_);generalize F:(s.heap.push (seqObj "list" #[] 0)).update s.heap.objs.size (Obj.mapSeq (· ++ (f.map λx=>Value.ref x.2).toArray))=g;have d:∀b o,s.heap.get? b=some o->g.get? b=some o:=λb o e=>by
  rw[<-F];exact(Yp _ _ (Yb (Zn e))).trans (Zf _ e)
 have z:g.objs.size=s.heap.objs.size+1:=by rw[<-F,Kh,size_push']
 refine Zd (Gp ?_ (by rw[Zc,K6];omega));have j:(g.push (seqObj "list" (f.map λx=>Value.ref x.2).toArray 0)).get? g.objs.size=some (seqObj "list" (f.map λx=>Value.ref x.2).toArray 0):=Zy _ rfl;show wpAny _ _ _ _ _ {s with heap:=g.push (seqObj "list" (f.map λx=>Value.ref x.2).toArray 0)};refine Zd (Qa (Q0 slot_list_sort ⟨_,j,rfl⟩ entry_list_sort ?body (args_list_sort _)))
 case body=>
  refine yjl (xs:=f) j (λx J=>?_) H u λK i L M N B O=>⟨_,rfl,Zs ⟨_,rfl,h K s.toks _ i L M N B (by rw[z];exact Jo _) λb o e=>?_⟩⟩
  ·obtain⟨⟨P,C,m,q,r⟩,p⟩:=t x J
   exact⟨⟨P,C,m,Zf _ (d _ _ q),r⟩,p⟩
  ·exact O b o (Yh (Zn (d _ _ e))) (Zf _ (d _ _ e))
end
def srtW:∅
 |[.lst l]=>(zlv l).bind λd=>if d.length<=63/\d.Nodup then some (.new ((ssK d).map dK)) else none
 |_=>none
section
variable{X:Cx}
def yoi{l:List D}{o:List (List Int)}(hX:X.calm=true)(O:zlv l=some o)(J:o.length<=63)(A:o.Nodup):zha X (.builtin "sorted") [.lst l] (.new ((ssK o).map dK)):=by
 refine⟨λB H Q=>∃(a:Addr) (g:List (List Int×Addr)),B=[.ref a]/\SqL X.K H a (g.map λz=>V.ref z.2)/\(∀z∈g,SqT X.K H z.2 (z.1.map V.int)/\isPr z.1=true)/\g.length<=63/\(g.map (·.1)).Nodup /\
   ∀(f:List (List Int×Addr)) p,(∀y∈f,y∈g)->f.map (·.1)=ssK (g.map (·.1))->H p=none->Q (.ref p) (upd H p (.lst (f.map λz=>V.ref z.2))),λpins s P H B us Q I r ⟨a,g,e,S,i,J,A,h⟩=>?_,λH0 Fc H F P ρ B Q R q k=>?_⟩
 ·subst e;obtain⟨u,e,T⟩:=zkt r
  subst e;cases T;obtain⟨U,r,pl,_⟩:=I.list S
  have e:=zmz r;subst e;refine zua pl.isList (λx t=>⟨Inv.tk I (i x t).1,(i x t).2⟩) A vB λC E D f n j W Y hD Z=>?_;have d:f.map (·.1)=ssK (g.map (·.1)):=by
   refine ygv (Ql.mpr W) (zpo λx t=>?_) λx=>?_
   ·obtain⟨z,q,e⟩:=Zq.mp t
    rw[<-e];exact(i z q).2
   ·rw[ssK_mem];exact(j.map _).mem_iff
  refine⟨.ref D,_,I.laid (t':=E) Z hD (show ObjOk X.prog X.w _ C D (.lst (f.map λz=>V.ref z.2)) from⟨?_,f.map (λz=>Value.ref z.2),n,zvp f,Y⟩),rfl,h f D (λy hy=>j.mem_iff.mp hy) d (I.hok.fresh hD)⟩
  rw[Zc,j.length_eq,K6];omega
 ·obtain⟨v,e,q⟩:=q.one
  obtain⟨a,xs,e1,sq,r⟩:=q.lst
  obtain⟨g,h1,C,G⟩:=zsy r O
  subst e1;subst h1;subst C;refine⟨a,g,e,R.sub.seq sq,λz i=>⟨Same.tup R.sub (G z i).1,(G z i).2⟩,by simpa using J,A,λf p m d j=>?_⟩
  obtain⟨L,M,N⟩:=R.put (.lst (f.map λz=>V.ref z.2)) j
  refine k _ _ _ (Same.refl _) L (RW.n M N Bs ?_);rw[<-d,Ya];clear d j L M N k;induction f with
  |nil=>exact DenL.nil
  |cons y f ih=>
   exact DenL.cons (Den.tup_mk (G y (m y (.head _))).1 (DenL.ints _)) (ih λz i=>m z (.tail _ i))
end
open PySem L2 PyProof.Rows
inductive Op where
 |add|sub|mul|fdiv|mod|pow
inductive Cm where
 |lt|le|gt|ge|eq|ne|isN|notN|isin|notin
inductive Ty where
 |int|bool|tuple|list
inductive Bi where
 |len|abs|min|max|sum|srt
inductive Fm where
 |ss|rev|lset|tupl|zip
inductive Tg where
 |name (i:Nat)|tup (l:List Nat)
mutual
inductive E where
 |var (i:Nat)|int (i:Int)|bl (b:Bool)|non
 |bin (o:Op) (a b:E)|neg (a:E)|cmp (c:Cm) (a b:E)
 |and (a b:E)|or (a b:E)|not (a:E)|ife (c a b:E)
 |tup (l:Es)|lst (l:Es)|ix (a b:E)|sl (a:E) (lo hi:EO)
 |call (f:Nat) (l:Es)|bi (f:Bi) (l:Es)|isi (a:E) (t:Ty)|isx (a:E) (ys:List Str)
 |idx (a b:E)|fld (a:E) (j:Nat)|fm (f:Fm) (l:Es)|lcp (a:E)|comp (elt:E) (t:Tg) (it:It') (nt:Nat) (fr:List Nat) (c:EO)
inductive Es where
 |nil|cons (e:E) (l:Es)
inductive EO where
 |non|som (e:E)
inductive It' where
 |seq (e:E)|seqV (i:Nat)|range1 (a:E)|range2 (a b:E)|enum (e:E)|rev (e:E)|zip (a b:E)
end
mutual
inductive S where
 |asg (i:Nat) (e:E)|unp (l:List Nat) (e:E)|par (i j:Nat) (a b:E)
 |ret (e:E)|retV (i:Nat)|iff (c:E) (a b:Ss)|whl (c:E) (b:Ss)|frr (t:Tg) (it:It') (b:Ss)|tryC (f g:Nat) (l:Es) (i j:Nat)|app (i:Nat) (e:E)|pop (i:Nat)|clr (i:Nat)|seti (i:Nat) (k e:E)|never
inductive Ss where
 |nil|cons (s:S) (l:Ss)
end
def Bw(a b:Int):Bool:=decide (a.natAbs<2^16000) && decide (b.natAbs<2^16000)
def zbt(b:Int):Bool:=decide (b≠0) && decide (b.natAbs<2^9000)
def zfy(a b:Int):Bool:=decide (0<=b) && decide (b<=1000) && decide (a.natAbs<2^64)
def addW:D->D->Option W
 |.int a,.int b=>some (.val (.int (a+b)))
 |.lst a,.lst b=>if a.length+b.length<=sizeLine then some (.new (a++b)) else none
 |_,_=>none
def arW(f:Int->Int->Option W):D->D->Option W
 |.int a,.int b=>f a b
 |_,_=>none
def opW:Op->D->D->Option W
 |.add,x,y=>addW x y
 |.sub,x,y=>arW (λa b=>some (.val (.int (a-b)))) x y
 |.mul,x,y=>arW (λa b=>if Bw a b=true then some (.val (.int (a*b))) else none) x y
 |.fdiv,x,y=>arW (λa b=>if zbt b=true then some (.val (.int (a.fdiv b))) else none) x y
 |.mod,x,y=>arW (λa b=>if b=0 then none else some (.val (.int (a.fmod b)))) x y
 |.pow,x,y=>arW (λa b=>if zfy a b=true then some (.val (.int (a^b.toNat))) else none) x y
def ordO(f:Int->Int->Bool):D->D->Option Bool
 |.int a,.int b=>some (f a b)
 |_,_=>none
def eqO:D->D->Option Bool
 |.int a,.int b=>some (decide (a=b))
 |.bl a,.bl b=>some (a == b)
 |.tup a,.tup b=>if (dOkL 49 a && dOkL 49 b)=true then some (eqL a b) else none
 |.lst a,.lst b=>if (dOkL 49 a && dOkL 49 b)=true then some (eqL a b) else none
 |_,_=>none
def inO(x:D):D->Option Bool
 |.lst l=>if (dOk 50 x && dOkL 49 l)=true then some (l.any λy=>eqD y x) else none
 |_=>none
def nonO(x:D):D->Option Bool
 |.non=>some (zol x)
 |_=>none
def cmpD:Cm->D->D->Option Bool
 |.lt,x,y=>ordO (λa b=>decide (a<b)) x y
 |.le,x,y=>ordO (λa b=>decide (a<=b)) x y
 |.gt,x,y=>ordO (λa b=>decide (b<a)) x y
 |.ge,x,y=>ordO (λa b=>decide (b<=a)) x y
 |.eq,x,y=>eqO x y
 |.ne,x,y=>(eqO x y).map not
 |.isin,x,y=>inO x y
 |.notin,x,y=>(inO x y).map not
 |.isN,x,y=>nonO x y
 |.notN,x,y=>(nonO x y).map not
def isTy:Ty->D->Bool
 |.int,.int _=>true
 |.int,.bl _=>true
 |.bool,.bl _=>true
 |.tuple,.tup _=>true
 |.list,.lst _=>true
 |_,_=>false
def isTyO(t:Ty):D->Option Bool
 |.exc _=>none
 |.obj _ _=>none
 |d=>some (isTy t d)
def lenW:∅
 |[.lst l]=>some (.val (.int l.length))
 |[.tup l]=>some (.val (.int l.length))
 |_=>none
def absW:∅
 |[.int i]=>some (.val (.int (if i<0 then -i else i)))
 |_=>none
def minW:∅
 |[.int i,.int j]=>some (.val (.int (if j<i then j else i)))
 |[.lst l]=>(minN l).map W.val
 |_=>none
def maxW:∅
 |[.int i,.int j]=>some (.val (.int (if i<j then j else i)))
 |[.lst l]=>((zqh l).bind maxI).map λm=>.val (.int m)
 |_=>none
def biW:Bi->∅
 |.len,d=>lenW d
 |.abs,d=>absW d
 |.min,d=>minW d
 |.max,d=>maxW d
 |.sum,_=>none
 |.srt,d=>srtW d
def ixD:D->D->Option D
 |.tup l,.int i=>atI l i
 |.lst l,.int i=>atI l i
 |_,_=>none
def slD:D->Option Int->Option Int->Option W
 |.lst l,i,j=>some (.new (cutD l i j))
 |_,_,_=>none
def zax:D->Option Bool
 |.bl b=>some b
 |_=>none
def dInt:D->Option Int
 |.int i=>some i
 |_=>none
def fldD(j:Nat):D->Option D
 |.obj _ l=>l[j]?
 |_=>none
def lcpW:D->Option W
 |.lst l=>some (.new l)
 |.tup l=>some (.new l)
 |_=>none
def fmW:Fm->∅
 |.tupl,[.lst l]=>some (.val (.tup l))
 |.zip,[.lst a,.lst b]=>if a.length=b.length then some (.new (zipD a b)) else none
 |_,_=>none
def tgOk(n:Nat):Tg->Bool
 |.name i=>decide (i<n)
 |.tup l=>l.all λi=>decide (i<n)
def setE(e:Rho)(i:Nat)(d:D):Option Rho:=if i<e.length then some (e.set i (some d)) else none
def zck:List Nat->List D->Rho->Option Rho
 |[],[],e=>some e
 |i::f,d::g,e=>(setE e i d).bind (zck f g)
 |_,_,_=>none
def zbw:Tg->D->Rho->Option Rho
 |.name i,d,e=>setE e i d
 |.tup f,.tup g,e=>zck f g e
 |_,_,_=>none
def zdk(l:List D):List D:=l.zipIdx.map λp=>D.tup [.int (p.2:Int),p.1]
def seqD:D->Option (List D)
 |.lst l=>some l
 |.tup l=>some l
 |_=>none
def lstD:D->Option (List D)
 |.lst l=>some l
 |_=>none
def varD(e:Rho)(i:Nat):Option D:=match e[i]? with
 |some (some d)=>some d
 |_=>none
section
variable(Γ:Nat->∅)
mutual
def ev:E->Rho->Option W
 |.var i,e=>(varD e i).map W.val
 |.int i,_=>some (.val (.int i))
 |.bl b,_=>some (.val (.bl b))
 |.non,_=>some (.val .non)
 |.bin o a b,e=>((ev a e).map W.d).bind λx=>((ev b e).map W.d).bind λy=>opW o x y
 |.neg a,e=>(((ev a e).map W.d).bind dInt).map λi=>.val (.int (-i))
 |.cmp c a b,e=>((ev a e).map W.d).bind λx=>((ev b e).map W.d).bind λy=>(cmpD c x y).map λk=>.val (.bl k)
 |.and a b,e=>(((ev a e).map W.d).bind zax).bind λk=>if k=true then ev b e else some (.val (.bl false))
 |.or a b,e=>(((ev a e).map W.d).bind zax).bind λk=>if k=true then some (.val (.bl true)) else ev b e
 |.not a,e=>(((ev a e).map W.d).bind zax).map λk=>.val (.bl (!k))
 |.ife c a b,e=>(((ev c e).map W.d).bind zax).bind λk=>if k=true then ev a e else ev b e
 |.tup l,e=>(evs l e).bind λg=>if g.length<=sizeLine then some (.val (.tup g)) else none
 |.lst l,e=>(evs l e).bind λg=>if g.length<=sizeLine then some (.new g) else none
 |.ix a b,e=>((ev a e).map W.d).bind λx=>((ev b e).map W.d).bind λy=>(ixD x y).map W.val
 |.sl a lo q,e=>((ev a e).map W.d).bind λx=>(evo lo e).bind λi=>(evo q e).bind λj=>slD x i j
 |.call f l,e=>(evs l e).bind λg=>Γ f g
 |.bi f l,e=>(evs l e).bind λg=>biW f g
 |.isi a t,e=>((ev a e).map W.d).bind λd=>(isTyO t d).map λk=>.val (.bl k)
 |.isx a r,e=>((ev a e).map W.d).bind λd=>(isX r d).map λk=>.val (.bl k)
 |.idx a b,e=>((ev a e).map W.d).bind λx=>((ev b e).map W.d).bind λy=>idxW x y
 |.fld a j,e=>(((ev a e).map W.d).bind (fldD j)).map W.val
 |.fm f l,e=>(evs l e).bind λg=>fmW f g
 |.lcp a,e=>((ev a e).map W.d).bind lcpW
 |.comp n t s p fr c,e=>(evW s e).bind λh=>if h.length<=sizeLine/\tgOk p t=true then
   (zca (λd=>(zbw t d (blkR p fr e)).bind λm=>(evc c m).bind λk=>if k=true then((ev n m).map W.d).map some else some none) h).map W.new else none
def evs:Es->Rho->Option (List D)
 |.nil,_=>some []
 |.cons e l,f=>((ev e f).map W.d).bind λd=>(evs l f).map λg=>d::g
def evo:EO->Rho->Option (Option Int)
 |.non,_=>some none
 |.som e,f=>(((ev e f).map W.d).bind dInt).map some
def evc:EO->Rho->Option Bool
 |.non,_=>some true
 |.som e,f=>((ev e f).map W.d).bind zax
def evW:It'->Rho->Option (List D)
 |.seq e,f=>((ev e f).map W.d).bind seqD
 |.seqV i,f=>(varD f i).bind seqD
 |.range1 a,f=>(((ev a f).map W.d).bind dInt).bind λn=>if -(2^62)<=n/\n<2^62 then some (zal 0 n.toNat) else none
 |.range2 a b,f=>(((ev a f).map W.d).bind dInt).bind λm=>(((ev b f).map W.d).bind dInt).bind λn=>
   if -(2^62)<=m/\m<2^62 /\ -(2^62)<=n/\n<2^62 then some (zal m (n-m).toNat) else none
 |.enum e,f=>(((ev e f).map W.d).bind lstD).map zdk
 |.rev e,f=>(((ev e f).map W.d).bind lstD).map List.reverse
 |.zip a b,f=>(((ev a f).map W.d).bind sqD).bind λl=>(((ev b f).map W.d).bind sqD).bind λm=>if l.length=m.length then some (zipD l m) else none
end
def evB(e:E)(f:RhoS):Option Bool:=((ev Γ e (view f)).map W.d).bind zax
def setR(d:RhoS)(i:Nat)(b:B):Option RhoS:=if i<d.length then some (d.set i (some b)) else none
def zeu:List Nat->List D->RhoS->Option RhoS
 |[],[],e=>some e
 |i::f,d::g,e=>(setR e i (.sh d)).bind (zeu f g)
 |_,_,_=>none
def zai:Tg->D->RhoS->Option RhoS
 |.name i,d,e=>setR e i (.sh d)
 |.tup f,.tup g,e=>zeu f g e
 |_,_,_=>none
def seqB(d:RhoS):Option (Option B)->Option (List D×RhoS)
 |some (~~~.lst l)=>some (l,d)
 |some (~~~.tup l)=>some (l,d)
 |some (some (.ow l))=>some (l,frz d)
 |_=>none
def evI:It'->RhoS->Option (List D×RhoS)
 |.seqV i,f=>seqB f f[i]?
 |.seq e,f=>(ev Γ e (view f)).bind λw=>match w.d with
  |.lst l=>some (l,after w f)
  |.tup l=>some (l,after w f)
  |_=>none
 |.range1 a,f=>(((ev Γ a (view f)).map W.d).bind dInt).bind λn=>if -(2^62)<=n/\n<2^62 then some (zal 0 n.toNat,f) else none
 |.range2 a b,f=>(((ev Γ a (view f)).map W.d).bind dInt).bind λm=>(((ev Γ b (view f)).map W.d).bind dInt).bind λn=>
   if -(2^62)<=m/\m<2^62 /\ -(2^62)<=n/\n<2^62 then some (zal m (n-m).toNat,f) else none
 |.enum e,f=>(ev Γ e (view f)).bind λw=>match w.d with
  |.lst l=>some (zdk l,frz f)
  |_=>none
 |.rev _,_=>none
 |.zip a b,f=>(((ev Γ a (view f)).map W.d).bind sqD).bind λl=>(((ev Γ b (view f)).map W.d).bind sqD).bind λm=>if l.length=m.length then some (zipD l m,frz f) else none
open Classical in
def zkg(c:RhoS->Option Bool)(b:RhoS->Option Out)(d:RhoS):Option Out:=
 if h:∃n o,zay c b n d=some o then zay c b h.choose d else none
theorem zem{c:RhoS->Option Bool}{b:RhoS->Option Out}:∀{n m:Nat}{d:RhoS}{o:Out},zay c b n d=some o->n<=m->zay c b m d=some o
 |0,_,_,_,h,_=>by cases h
 |n+1,0,_,_,_,h=>by omega
 |n+1,m+1,d,o,h,i=>by
  unfold zay at h |-;cases e:c d with
  |none=>rw[e] at h;cases h
  |some k=>
   simp only[e] at h |-;cases k with
   |false=>exact h
   |true=>
    cases f:b d with
    |none=>simp only[f] at h;cases h
    |some o2=>
     simp only[f] at h |-;cases o2 with
     |rt w=>exact h
     |nx g=>exact zem h vB
def zhu{c:RhoS->Option Bool}{b:RhoS->Option Out}{n:Nat}{e:RhoS}{o:Out}(h:zay c b n e=some o):zkg c b e=some o:=by
 have d:∃n o,zay c b n e=some o:=⟨n,o,h⟩;unfold zkg;rw[dif_pos d];obtain⟨g,f⟩:=d.choose_spec
 rw[f];have a:=zem h (Nat.le_max_left n d.choose);have b:=zem f (Nat.le_max_right n d.choose);rw[a] at b;exact b.symm
def zkf{c:RhoS->Option Bool}{b:RhoS->Option Out}{d:RhoS}{o:Out}(h:zkg c b d=some o):∃n,zay c b n d=some o:=by
 unfold zkg at h;by_cases e:∃n o,zay c b n d=some o
 ·rw[dif_pos e] at h;exact⟨_,h⟩
 ·rw[dif_neg e] at h;cases h
mutual
def ex:S->RhoS->Option Out
 |.asg i e,h=>(ev Γ e (view h)).bind λw=>(setR (after w h) i w.b).map Out.nx
 |.unp o e,h=>(ev Γ e (view h)).bind λw=>(zai (.tup o) w.d (after w h)).map Out.nx
 |.par i j a b,h=>((ev Γ a (view h)).map W.d).bind λx=>((ev Γ b (view h)).map W.d).bind λy=>
   if lf x=true/\lf y=true/\i≠j/\i<h.length/\j<h.length then some (.nx ((h.set i (~~~x)).set j (~~~y))) else none
 |.ret e,h=>(ev Γ e (view h)).map Out.rt
 |.retV i,h=>match h[i]? with
  |some (some (.ow l))=>some (.rt (.new l))
  |some (~~~d)=>some (.rt (.val d))
  |_=>none
 |.iff c a b,h=>(evB Γ c h).bind λk=>if k=true then exs a h else exs b h
 |.whl c b,h=>zkg (evB Γ c) (exs b) h
 |.frr t q b,h=>(evI Γ q h).bind λp=>forN (zai t) (exs b) p.1 p.2
 |.tryC f g l i j,h=>(evs Γ l (view h)).bind λm=>match Γ g m with
  |some (.val (.exc z))=>if z∈zvj/\i≠j/\i<h.length then some (.nx (((frz h).set j none).set i (~~~.exc z))) else none
  |_=>(Γ f m).map λ_=>.nx (frz h)
 |.app i e,h=>(ev Γ e (view h)).bind λw=>match h[i]?,w with
  |some (some (.ow l)),.val d=>if lf d=true/\l.length<sizeLine then some (.nx (h.set i (some (.ow (l++[d]))))) else none
  |_,_=>none
 |.pop i,h=>match h[i]? with
  |some (some (.ow l))=>if l=[] then none else some (.nx (h.set i (some (.ow l.dropLast))))
  |_=>none
 |.clr i,h=>match h[i]? with
  |some (some (.ow _))=>some (.nx (h.set i (some (.ow []))))
  |_=>none
 |.seti i k e,h=>(ev Γ e (view h)).bind λw=>(((ev Γ k (view h)).map W.d).bind dInt).bind λj=>match h[i]?,w with
  |some (some (.ow l)),.val d=>if lf d=true then(ixN l.length j).map λn=>.nx (h.set i (some (.ow (l.set n d)))) else none
  |_,_=>none
 |.never,_=>none
def exs:Ss->RhoS->Option Out
 |.nil,d=>some (.nx d)
 |.cons s l,d=>(ex s d).bind λo=>match o with
  |.nx e=>exs l e
  |.rt w=>some (.rt w)
end
def run(b:Ss)(n:Nat)(e:List D):Option W:=(exs Γ b (e.map (λd=>~~~d)++List.replicate (n-e.length) none)).bind λo=>match o with
 |.rt w=>some w
 |.nx _=>some (.val .non)
end
open PySem L2 PyProof.Rows
section
variable{X:Cx}{e a b c:Expr}{es:List Expr}{ρ:RhoS}{pos:Pos}
def zkb{d:Type}(l:List d)(i:Nat):l.zipIdx[i]? = (l[i]?).map λx=>(x,i):=by simp
def DI.enum{h:List Expr}{t:Nat}{tp p:Pos}{l:List D}(u:Gl X "enumerate")(w:X.mg "enumerate" = none)(A:DA X [a] (view ρ) [.lst l])(B:Bm a=true):
  DI X (.Tuple h t tp) (.Call (.Name "enumerate" p) [a] [] pos) ρ (zdk l) (frz ρ):=λC E=>
 PI.mono (zxo u w (A C E) (Bu B)) λW H R ⟨F,S,k⟩=>by
  obtain⟨Y,G⟩:=S.borrow
  refine⟨_,G,λZ I J K R2 q=>?_⟩
  obtain⟨L,M⟩:=S.freeze K R2
  obtain⟨v,e,q⟩:=q.one
  obtain⟨a,j,N,m,r⟩:=q.lst
  subst N;refine⟨a,e,⟨j,R2.sub.seq m⟩,k _ I J L M λi H' n=>⟨λd g=>?_,λf=>⟨j,n.seq m,?_⟩⟩⟩
  ·unfold zdk at g;rw[Zj,zkb] at g;cases o:l[i]? with
   |none=>rw[o] at g;cases g
   |some O=>
    rw[o] at g;cases g;obtain⟨y,s,P⟩:=r.get o
    refine⟨⟨j,y,n.seq m,s⟩,λx Q ⟨p,z,T,ex,U,V⟩=>?_⟩
    have:=V j (n.seq m)
    rw[s] at this;cases this;exact .inr ⟨p,_,[.int (i:Int),O],T,U,ex,rfl,DenL.cons Den.int_mk (DenL.cons P DenL.nil)⟩
  ·unfold zdk at f;rw[Zc,Kn] at f;rw[r.length];exact f
end
open PySem L2 PyProof.Rows
section
variable{X:Cx}{e a b c t tg:Expr}{es ts:List Expr}{ρ ρ' ρ2:Rho}{pos:Pos}{d:D}{ds:List D}{w:W}
def ztp{K:vE}{F:Hp}{a:Addr}{e:List V}{l:List D}(f:SqL K F a e)(r:DenL K F l e):Walks K F (Itl K a) l:=λi s g=>⟨λd m=>by
 obtain⟨y,j,n⟩:=r.get m
 refine⟨⟨e,y,g.seq f,j⟩,λx o ⟨p,q⟩=>?_⟩
 have:=q e (g.seq f)
 rw[j] at this;cases this;exact .inl ⟨p,n⟩,λh=>⟨e,g.seq f,by rw[r.length];exact h⟩⟩
def zvk{K:vE}{F:Hp}{a:Addr}{e:List V}{l:List D}(f:SqT K F a e)(r:DenL K F l e):Walks K F (Itt K a) l:=λi s g=>⟨λd m=>by
 obtain⟨y,j,n⟩:=r.get m
 refine⟨⟨e,y,Same.tup g f,j⟩,λx o ⟨p,q⟩=>?_⟩
 have:=q e (Same.tup g f)
 rw[j] at this;cases this;exact .inl ⟨p,n⟩,λh=>⟨e,Same.tup g f,by rw[r.length];exact h⟩⟩
def ztq{K:vE}{F:Hp}{a:Addr}{g:List V}{l:List D}(h:SqL K F a g)(r:DenL K F l g):Walks K F (Ite K a) (zdk l):=λi w j=>⟨λd f=>by
 unfold zdk at f;rw[Zj,zkb] at f;cases m:l[i]? with
 |none=>rw[m] at f;cases f
 |some o=>
  rw[m] at f;cases f;obtain⟨y,n,q⟩:=r.get m
  refine⟨⟨g,y,j.seq h,n⟩,λx s ⟨p,z,t,ex,u,v⟩=>?_⟩
  have:=v g (j.seq h)
  rw[n] at this;cases this;exact .inr ⟨p,_,[.int (i:Int),o],t,u,ex,rfl,DenL.cons Den.int_mk (DenL.cons q DenL.nil)⟩,λe=>⟨g,j.seq h,by
 unfold zdk at e;rw[Zc,Kn] at e;rw[r.length];exact e⟩⟩
def DIe.list{l:List D}(f:DF X e ρ (.lst l)):DIe X tg e ρ l:=λg h=>PI.mono (zpw (f g h)) λs H R ⟨F,i,k⟩=>⟨F,i,λv j m n R2 q=>by
 obtain⟨a,o,p,d,r⟩:=q.lst
 exact⟨a,p,⟨o,R2.sub.seq d⟩,k _ j m n R2 (ztp d r)⟩⟩
theorem DIe.tup{l:List D}(f:DF X e ρ (.tup l)):DIe X tg e ρ l:=λg h=>PI.mono (zxn (f g h)) λs H R ⟨F,i,k⟩=>⟨F,i,λv j m n R2 q=>by
 obtain⟨a,o,p,d,r⟩:=q.tup
 exact⟨a,p,⟨o,Same.tup R2.sub d⟩,k _ j m n R2 (zvk d r)⟩⟩
def DIe.range1{p:Pos}{n:Int}(d:Gl X "range")(f:X.mg "range" = none)(g:DA X [a] ρ [.int n])(h:Bm a=true)(i : -(2^62)<=n)(j:n<2^62):DIe X tg (.Call (.Name "range" p) [a] [] pos) ρ (zal 0 n.toNat):=λl m=>
 PI.mono (zio d f (g l m) (Bu h)) λu H R ⟨F,o,k⟩=>⟨F,o,λw r s t R2 q=>by
  obtain⟨v,e,q⟩:=q.one
  rw[q.int] at e;exact⟨n,e,i,j,k _ r s t R2 zgi⟩⟩
def DIe.enum{d:List Expr}{g:Nat}{tp p:Pos}{l:List D}(h:Gl X "enumerate")(i:X.mg "enumerate" = none)(j:DA X [a] ρ [.lst l])(m:Bm a=true):DIe X (.Tuple d g tp) (.Call (.Name "enumerate" p) [a] [] pos) ρ (zdk l):=λn o=>
 PI.mono (zxo h i (j n o) (Bu m)) λB H R ⟨F,s,k⟩=>⟨F,s,λC t u w R2 q=>by
  obtain⟨v,e,q⟩:=q.one
  obtain⟨a,z,A,f,r⟩:=q.lst
  subst A;exact⟨a,e,⟨z,R2.sub.seq f⟩,k _ t u w R2 (ztq f r)⟩⟩
theorem ER.set{K:vE}{H0 Fc F H:Hp}{σ:L2.St}(R:ER K H0 Fc F H σ ρ){i:Nat}{v:V}(q:Den K F d v)(g:i<ρ.length)(h:i<σ.length):ER K H0 Fc F H (σ.set i (some v)) (ρ.set i (some d)):=
 ⟨R.sub,R.same,R.base,R.new,λj l e=>by
  by_cases f:j=i
  ·subst f;rw[Yv g] at e;cases e;exact⟨v,Yv h,q⟩
  ·rw[Yj (W5 f)] at e |-;exact R.env j l e⟩
def DGe.name{i:Nat}{x:Str}(g:X.N.Nodup)(e:X.N[i]? = some x)(f:X.env.scope.names.lookup x=some .local)(h:i<ρ.length):DGe X (.Name x pos) d ρ (ρ.set i (some d)):=λj l=>
 PG.mono (ziq g e (.inl f) (.inr f)) λv m H Q ⟨hlen,F,R,q,k⟩=>k _ (by rw[W9];exact hlen) (R.set q h (by rw[hlen];exact(Zo.mp e).1))
def DGse(X:Cx)(tg:List Expr)(ds:List D)(ρ ρ':Rho):Prop:=∀e f,PGs X tg (λh g H Q=>g.length=X.N.length/\∃F,ER X.K e f F H g ρ/\DenL X.K F ds h/\∀d,d.length=X.N.length->ER X.K e f F H d ρ'->Q d H)
def DGse.nil:DGse X [] [] ρ ρ:=λf g=>PGs.mono zpx λh d H Q ⟨e,F,S,q,k⟩=>⟨q.inv_nil,k d e S⟩
def DGse.cons(i:DGe X t d ρ ρ')(j:DGse X ts ds ρ' ρ2)(l:Bm t=true):DGse X (t::ts) (d::ds) ρ ρ2:=λg h=>
 PGs.mono (zhj (i g h) (j g h) (by rw[zbn l];rfl)) λu w H Q ⟨m,F,S,q,k⟩=>by
  obtain⟨v,r,e,n,o⟩:=q.inv_cons
  exact⟨v,r,e,m,F,S,n,λp f s=>⟨f,F,s,o,k⟩⟩
theorem DGe.tup{k}(g:X.calm=true)(h:DGse X ts ds ρ ρ')(f:ts.all Bm=true)(i:ds.length=ts.length):DGe X (.Tuple ts k pos) (.tup ds) ρ ρ':=λj l=>
 PG.mono (zxp (n:=ts.length) g (h j l) (zbg f).1 (zbg f).2) λv p H Q ⟨d,F,S,q,k⟩=>by
  obtain⟨a,m,e,o,r⟩:=q.tup
  exact⟨a,m,e,Same.tup S.sub o,by rw[r.length];exact i,d,F,S,r,k⟩
structure CompOk(X:Cx)(scope:Scope)(ts frees:List Str)(fr:List Nat):Prop where
 kind:scope.kind=.function
 cell:∀y∈scope.names,y.2 ≠ .cell
 names:∀y∈scope.names,y.2=.local->scope.names.lookup y.1=some .local
 all:∀y∈scope.names,y.2=.free->X.env.kindOf y.1=some .cell
 free:∀(m:Nat) (x:Str),frees[m]? = some x->scope.names.lookup x=some .free/\X.env.kindOf x=some .cell/\∃j:Nat,fr[m]? = some j/\X.N[j]? = some x
 len:fr.length=frees.length
def ygp(X:Cx)(scope:Scope)(N':List Str)(f:Cx):Prop:=∃g C d e ex,f=blk X scope g C N' d e ex
def zhp{e:List (Addr×Obj)}{s:Shared}{f:L2.St}{H:Hp}{scope:Scope}{ts d:List Str}{fr:List Nat}(I:Inv X e f H s)(g:CompOk X scope ts d fr):∀y∈scope.names,y.2=.free->∃c,X.env.cells.lookup y.1=some c:=
 λy h i=>I.ok.has y.1 (.inl (g.all y h i))
def DE.comp{z l:Expr}{r:List Expr}{scope:Scope}{ts h:List Str}{fr:List Nat}{g res:List D}{f:D->Option (Option D)}(t:X.calm=true)(q:CompOk X scope ts h fr)(hi:DIe X tg l ρ g)(hs:∀x,foldedSetIterable l X.env x=pure x)
 (N:g.length<=sizeLine)(A:zca f g=some res)
 (B:∀(E:Cx),ygp X scope (ts++h) E->∀(d:D) (o:Option D),d∈g->f d=some o->∃p,DGe E tg d (blkR ts.length fr ρ) p/\(∀(i:Nat) d,(blkR ts.length fr ρ)[i]? = some (some d)->p[i]? = some (some d)) /\
   (match o with|none=>DTs E r p false|some e=>DTs E r p true/\DF E z p e)):
  DE X (.ListComp z [⟨tg,l,r,0⟩] scope pos) ρ (.new res):=by
 intro H0 Fc pins s O H Q I ⟨F,R,k⟩;rw[eval_ListComp];refine Gj (use:=none) rfl hs (yih (zhp I q)) q.kind q.names (thn (hi H0 Fc pins s O H (λJ G=>∃u,Same F u/\ER X.K H0 Fc u G O ρ/\Walks X.K u J g) I ⟨F,R,λJ G u s' P S=>⟨u,s',P,S⟩⟩) λv s1 h1=>thn h1 λa9 s2 h2=>?_);obtain⟨it,fp,tn,J,H1,w,I2,T,U,V,F1,W,R1,S⟩:=h2
 subst w;refine zkp (K:=X.K) rfl (σ':=blkR ts.length fr O) (ρ0:=blkR ts.length fr ρ) (N':=ts++h) I2 t T U V q.kind q.cell (zhp I q) R1 ?_ ?_ ?_ S N A (λC L M d o hd ho=>B _ ⟨_,C,L,M,fp,rfl⟩ d o hd ho) ?_
 ·rw[zth,Yc,q.len]
 ·intro i d e;obtain⟨m,j,w,Y,Z⟩:=zec e
  obtain⟨v,g1,g2⟩:=R1.env j d Z
  subst w;exact⟨v,yar Y g1,g2⟩
 ·intro i x v w Y;obtain⟨m,j,Z,e4,e5⟩:=zec Y
  subst Z;rw[Yg vB,show ts.length+m-ts.length=m by omega] at w;obtain⟨g1,g2,j',g3,g4⟩:=q.free m x w
  rw[e4] at g3;cases g3;exact⟨g1,g2,j,g4,e5⟩
 ·intro D C s5 G u ys m I5 a0 a1 a2 a3 a4 a5 a6 P a7 a8 hD dn;refine⟨m,a0,λh' sb=>⟨.ref D,G,I5.turned (t':=s5.toks) (λb o hb e=>sb.extBut b o hb e) a1 a2 (.inr a3) a4 a5,rfl,k _ G u (W.trans a6) P (RW.n a7 a8 hD dn)⟩⟩
def DS.asgComp{i:Nat}{x:Str}{px B:Pos}{t h:Expr}{p:List Expr}{scope:Scope}{ts l:List Str}{fr:List Nat}{g res:List D}{f:D->Option (Option D)}{ρ:RhoS}(hN:X.N.Nodup)(a3:X.N[i]? = some x)(hx:Loc X.env.scope x)(hf:X.fn x=true\/X.env.scope.names.lookup x=some .local)(hl:i<ρ.length)
 (a4:swapsWith (.ListComp t [⟨tg,h,p,0⟩] scope pos) (some (.Name x px)) B.line X.env=pure true)
 (G:X.calm=true)(E:CompOk X scope ts l fr)(hi:DIe X tg h (view ρ) g)(hs:∀x,foldedSetIterable h X.env x=pure x)
 (a5:g.length<=sizeLine)(P:zca f g=some res)
 (U:∀(V:Cx),ygp X scope (ts++l) V->∀(d:D) (o:Option D),d∈g->f d=some o->∃r,DGe V tg d (blkR ts.length fr (view ρ)) r/\(∀(i:Nat) d,(blkR ts.length fr (view ρ))[i]? = some (some d)->r[i]? = some (some d)) /\
   (match o with|none=>DTs V p r false|some e=>DTs V p r true/\DF V t r e)):
  DS X (.Assign [.Name x px] (.ListComp t [⟨tg,h,p,0⟩] scope pos) B) ρ (.nx ((after (.new res) ρ).set i (some (.ow res)))):=by
 intro H0 Fc pins s σ H D I ⟨F,S,k⟩;obtain⟨s0,R⟩:=S.borrow
 rw[exec_Assign_Name_used _ _ _ _ a4];refine Zd (U4 (Zd ?_));show wpAny _ X.A (do let _ <-comprehension (.ListComp t [⟨tg,h,p,0⟩] scope pos) scope X.env _ (newList []) false (eval h X.env) (some (assign (.Name x px) X.env))) _ _ s;refine Zd (Uk (Gj (use:=some (assign (.Name x px) X.env)) (Q:=λ_ s'=>SP X pins D .next s') rfl hs (yih (zhp I E)) E.kind E.names (thn (hi H0 Fc pins s σ H (λJ M=>∃L,Same (DL.borrow F H σ ρ) L/\ER X.K H0 Fc L M σ (view ρ)/\Walks X.K L J g) I ⟨_,R,λJ M L s' R' wk=>⟨L,s',R',wk⟩⟩) λv s1 h1=>thn h1 λaj s2 h2=>?_)) (λ_ s' hq=>Zs (Zs hq)) λ_ _ e=>e);obtain⟨it,fp,tn,J,H1,O,I2,T,a7,a8,F1,W,R1,wk⟩:=h2
 subst O;refine zkp (K:=X.K) rfl (σ':=blkR ts.length fr σ) (ρ0:=blkR ts.length fr (view ρ)) (N':=ts++l) I2 G T a7 a8 E.kind E.cell (zhp I E) R1 ?_ ?_ ?_ wk a5 P (λC Y Z d o hd ho=>U _ ⟨_,C,Y,Z,fp,rfl⟩ d o hd ho) ?_
 ·rw[zth,Yc,E.len]
 ·intro i d e;obtain⟨m,j,O,e2,e3⟩:=zec e
  obtain⟨v,g1,g2⟩:=R1.env j d e3
  subst O;exact⟨v,yar e2 g1,g2⟩
 ·intro i x v O e2;obtain⟨m,j,e3,e4,e5⟩:=zec e2
  subst e3;rw[Yg vB,show ts.length+m-ts.length=m by omega] at O;obtain⟨g1,g2,j',g3,g4⟩:=E.free m x O
  rw[e4] at g3;cases g3;exact⟨g1,g2,j,g4,e5⟩
 ·intro Da C s5 M L ys m I5 a9 aa a0 ab a1 ae a2 R' af ag hD dn;have q:RW X.K H0 L M (.new res) (.ref Da):=RW.n af ag hD dn;obtain⟨F3,s3,S3,q3⟩:=S.after (W.trans a2) R' q
  refine wpAny_assign_Name (znc I5 hN a3 hx (v:=.ref Da) (u:=.ref Da) rfl (λs6 I6 ⟨a6,ah,ai⟩=>⟨m,?_,λh' sb=>?_⟩) hf)
  ·refine a9.sameBut ah (λz=>?_);rcases ai with w|w
   ·exact a0 (z.trans w)
   ·exact a1 x a6 w z.symm
  ·refine⟨_,M,I6.turned (t':=s6.toks) (λb o hb e=>sb.extBut b o hb e) aa a0 (.inr ab) a1 ae,k _ M F3 s3 (S3.bind q3 ?_ (Owned.not_after S (W.trans a2) q))⟩
   rw[<-S3.len,S.len];exact hl
end
open PySem L2 PyProof.Rows
structure TC where
 N:List Str
 sc:Scope
 fns:List (Str×Nat×Nat)
 rzs:List (Str×Nat×Nat)
 xs:Bool
def ixOf(x:Str):List Str->Option Nat
 |[]=>none
 |y::l=>if x=y then some 0 else(ixOf x l).map (· + 1)
theorem zeb{x:Str}:∀{l:List Str}{i:Nat},ixOf x l=some i->l[i]? = some x
 |[],_,h=>by cases h
 |y::l,i,h=>by
  unfold ixOf at h;by_cases e:x=y
  ·rw[if_pos e] at h;cases h;simp[e]
  ·rw[if_neg e] at h;obtain⟨j,d,f⟩:=Zb.mp h
   subst f;simpa using zeb d
def slot(c:TC)(x:Str):Option Nat:=
 if (x == ("__debug__" : Str))=true\/(x == ("__classdict__" : Str))=true then none else match c.sc.names.lookup x with
  |some .local=>ixOf x c.N
  |some .cell=>ixOf x c.N
  |_=>none
def isGl(c:TC)(x:Str):Bool:=!(x == ("__debug__" : Str)) && decide (c.sc.names.lookup x=some .globalImplicit)
def trOp:Operator->Option Op
 |.Add=>some .add
 |.Sub=>some .sub
 |.Mult=>some .mul
 |.FloorDiv=>some .fdiv
 |.Mod=>some .mod
 |.Pow=>some .pow
 |_=>none
def trCm:CmpOp->Option Cm
 |.Lt=>some .lt
 |.LtE=>some .le
 |.Gt=>some .gt
 |.GtE=>some .ge
 |.Eq=>some .eq
 |.NotEq=>some .ne
 |.Is=>some .isN
 |.IsNot=>some .notN
 |.In=>some .isin
 |.NotIn=>some .notin
def Bi.nm:Bi->String
 |.len => "len" | .abs => "abs" | .min => "min" | .max => "max" | .sum => "sum" | .srt => "sorted"
def trBi(x:Str):Option Bi:=if x=Str.ofString Bi.len.nm then some .len else if x=Str.ofString Bi.abs.nm then some .abs else if x=Str.ofString Bi.min.nm then some .min else if x=Str.ofString Bi.max.nm then some .max else if x=Str.ofString Bi.sum.nm then some .sum else if x=Str.ofString Bi.srt.nm then some .srt else none
inductive Hd where
 |fn (f n:Nat)|bi (b:Bi)|isi|lst|no
def zop(c:TC)(x:Str):Hd:=
 if isGl c x=true then match c.fns.lookup x with
  |some (f,n)=>.fn f n
  |none=>match trBi x with
   |some b=>.bi b
   |none=>if x=("isinstance" : Str) then .isi else if x=("list" : Str) then .lst else .no
 else .no
def locs(sc:Scope):List Str:=sc.names.filterMap λy=>if y.2=NameKind.local then some y.1 else none
def frs'(sc:Scope):List Str:=sc.names.filterMap λy=>if y.2=NameKind.free then some y.1 else none
def relS(scope sc:Scope):Scope:={scope with names:=scope.names.map λ(n,k)=>if (k == NameKind.free && sc.kind == .function && sc.names.lookup n == some .cell)=true then(n,NameKind.cell) else(n,k)}
def frIx(N:List Str):List Str->Option (List Nat)
 |[]=>some []
 |x::l=>(ixOf x N).bind λi=>(frIx N l).map λr=>i::r
def zux(c:TC)(scope:Scope):Bool:=
 decide (scope.kind=.function) && scope.names.all (λy=>decide (y.2 ≠ .cell)) && scope.names.all (λy=>decide (y.2=.local->scope.names.lookup y.1=some .local)) &&
 scope.names.all (λy=>decide (y.2=.free->c.sc.names.lookup y.1=some .cell/\scope.names.lookup y.1=some .free)) && decide ((locs scope++frs' scope).Nodup) && decide (c.sc.kind=.function)
def yes:Expr->Bool
 |.Tuple _ _ _=>true
 |_=>false
def zys:Expr->Bool
 |.Set _ _ _=>true
 |_=>false
def isB(c:TC)(x:Str)(y:String):Bool:=isGl c x && (c.fns.lookup x).isNone && decide (x=Str.ofString y)
def fmN(c:TC)(x:Str):List Expr->Option (Fm×List Expr)
 |[.Call (.Name y _) (a::d) [] _]=>if isB c x "list" = true/\isB c y "zip" = true then some (.zip,a::d) else none
 |_=>none
def fmT(c:TC)(x:Str):List Expr->Option (Fm×List Expr)
 |[a]=>if isB c x "tuple" = true then some (.tupl,[a]) else none
 |_=>none
def fmOf(c:TC)(x:Str)(d:List Expr):Option (Fm×List Expr):=match fmN c x d with
 |some r=>some r
 |none=>fmT c x d
def trI1(d:Expr->Option E)(c:TC)(f:Expr):Expr->Option It'
 |.Call (.Name x p) [a] [] q=>if isB c x "range" = true/\Bm a=true then(d a).map It'.range1 else if isB c x "enumerate" = true/\Bm a=true/\yes f=true then(d a).map It'.enum else if isB c x "reversed" = true/\Bm a=true then(d a).map It'.rev else(d (.Call (.Name x p) [a] [] q)).map It'.seq
 |.Call (.Name x p) [a,b] [] q=>if isB c x "zip" = true/\Bm a=true/\Bm b=true/\yes f=true then(d a).bind λg=>(d b).map λh=>It'.zip g h else(d (.Call (.Name x p) [a,b] [] q)).map It'.seq
 |.Name x _=>(slot c x).map It'.seqV
 |e=>if zys e=false then(d e).map It'.seq else none
def ycn(c:TC)(x:Str):Option Nat:=if c.sc.names.lookup x=some .local then ixOf x c.N else none
def zng(c:TC):List Expr->Option (List Nat)
 |[]=>some []
 |.Name x _::d=>(ycn c x).bind λi=>(zng c d).map λl=>i::l
 |_=>none
def ych(c:TC):Expr->Option Tg
 |.Name x _=>(ycn c x).map Tg.name
 |.Tuple d _ _=>(zng c d).map Tg.tup
 |_=>none
def blkC(c:TC)(scope:Scope):TC:=⟨locs scope++frs' scope,relS scope c.sc,c.fns,c.rzs,c.xs⟩
def zns:Expr->Bool
 |.Name _ _=>true
 |.Constant _ _ _=>true
 |.Call _ _ _ _=>true
 |.Subscript _ _ _=>true
 |_=>false
def yje(d:Expr->Option E)(p:Pos):List Expr->Option E
 |[a]=>d a
 |a::b::e=>(d a).bind λf=>(d (.BoolOp .And (b::e) p)).map λg=>.and f g
 |[]=>none
def trOr(d:Expr->Option E)(p:Pos):List Expr->Option E
 |[a]=>d a
 |a::b::e=>(d a).bind λf=>(d (.BoolOp .Or (b::e) p)).map λg=>.or f g
 |[]=>none
def trB(d:Expr->Option E)(p:Pos)(e:List Expr):BoolOp->Option E
 |.And=>yje d p e
 |.Or=>trOr d p e
def trCp(d:Expr->Option E)(a:Expr):List CmpOp->List Expr->Option E
 |[e],[b]=>if behindInMarks e b=false then(trCm e).bind λo=>(d a).bind λf=>(d b).map λg=>.cmp o f g else none
 |_,_=>none
def trN(d:Expr->Option E)(a:Expr):UnaryOp->Option E
 |.Not=>(d a).map E.not
 |_=>none
def trT1(f:Expr->Option E)(g:Expr->Option E):Expr->Option E
 |.UnaryOp o a _=>trN g a o
 |.BoolOp o h p=>trB g p h o
 |.Compare a d i _=>trCp f a d i
 |e=>if zns e=true then f e else none
def zvz(d:Expr->Option E):List Expr->Option EO
 |[]=>some .non
 |[c]=>(d c).map EO.som
 |_=>none
def trK:Const->Option E
 |.int i=>some (.int i)
 |.bool b=>some (.bl b)
 |.none=>some .non
 |_=>none
def trU(d:Expr->Option E)(a:Expr):UnaryOp->Option E
 |.USub=>(d a).map E.neg
 |.Not=>(d a).map E.not
 |_=>none
def trLC(h:TC->Expr->Option E)(i:TC->Expr->Option E)(j:Expr->Option E)(c:TC)(d:Expr)(scope:Scope):List Comprehension->Option E
 |[⟨g,iter,f,0⟩]=>if zux c scope=true then(trI1 j c g iter).bind λl=>(ych (blkC c scope) g).bind λt=>(frIx c.N (frs' scope)).bind λfr=>
   (h (blkC c scope) d).bind λe=>(zvz (i (blkC c scope)) f).map λk=>.comp e t l (locs scope).length fr k else none
 |_=>none
def trSb(d:Expr->Option E)(f:Option Expr->Option EO)(a:Expr):Expr->Option E
 |.Slice lo g none _=>(d a).bind λe=>(f lo).bind λl=>(f g).map λh=>.sl e l h
 |b=>if zdz b=true then(d a).bind λe=>(d b).map λi=>.ix e i else none
def trFd(d:Expr->Option E)(c:TC)(f:Str)(o:Expr):Option E:=
 if c.xs=true/\zxl o=true then(ixOf f flds).bind λj=>(d o).map λa=>.fld a j else none
def trIx(d:Expr->Option E)(c:TC)(f:Str)(x:Str)(g h:Pos)(e:Expr):Option E:=
 if f=("index" : Str)/\Bm e=true/\(g.endLine == h.line)=true then(slot c x).bind λi=>(d e).map λb=>.idx (.var i) b else none
def trE1(q:TC->Expr->Option E)(n:TC->Expr->Option E)(d:Expr->Option E)(g:List Expr->Option Es)(r:Option Expr->Option EO)(c:TC):Expr->Option E
 |.Name x _=>(slot c x).map E.var
 |.Constant k _ _=>trK k
 |.BinOp a s b _=>(trOp s).bind λo=>(d a).bind λi=>(d b).map λj=>.bin o i j
 |.UnaryOp o a _=>trU d a o
 |.BoolOp o h p=>trB d p h o
 |.Compare a l u _=>trCp d a l u
 |.Tuple h _ _=>(g h).map E.tup
 |.List h _=>(g h).map E.lst
 |.ListComp m v scope _=>trLC q n d c m scope v
 |.Subscript a b _=>trSb d r a b
 |.IfExp t a b _=>(n c t).bind λw=>(d a).bind λi=>(d b).map λj=>.ife w i j
 |.Attribute o f _=>trFd d c f o
 |.Call (.Attribute (.Name x _) z A) [e] [] B=>trIx d c z x A B e
 |.Call (.Name x _) (e::h) [] _=>match fmOf c x (e::h) with
  |some (f,C)=>(g C).map (E.fm f)
  |none=>match zop c x with
  |.fn f k=>if (e::h).length=k then(g (e::h)).map (E.call f) else none
  |.bi b=>(g (e::h)).map (E.bi b)
  |.isi=>none
  |.lst=>none
  |.no=>none
 |_=>none
mutual
def trE:Nat->TC->Expr->Option E
 |0,_,_=>none
 |n+1,c,e=>trE1 (trE n) (trT n) (trE n c) (trEs n c) (trO n c) c e
def trEs:Nat->TC->List Expr->Option Es
 |0,_,_=>none
 |n+1,c,[]=>some .nil
 |n+1,c,e::d=>if Bm e=true then(trE n c e).bind λf=>(trEs n c d).map λl=>.cons f l else none
def trO:Nat->TC->Option Expr->Option EO
 |0,_,_=>none
 |n+1,c,none=>some .non
 |n+1,c,some e=>(trE n c e).map EO.som
def trT:Nat->TC->Expr->Option E
 |0,_,_=>none
 |n+1,c,e=>trT1 (trE n c) (trT n c) e
end
def znr{e:Expr}{env:Env}(h:zns e=true):∀d,isTrue e env d=(do let v <-d;standAt e.pos;holding [v] (truthy v)):=λd=>by
 cases e<;>first|rfl|(cases h;done)
abbrev zdg:List Str:=[Str.ofString "len",Str.ofString "abs",Str.ofString "isinstance",Str.ofString "int",Str.ofString "bool",Str.ofString "tuple",Str.ofString "list",Str.ofString "range",Str.ofString "enumerate",Str.ofString "min",Str.ofString "max",Str.ofString "sorted",Str.ofString "set",Str.ofString "reversed",Str.ofString "zip",Str.ofString "sum"]
structure XE(X:Cx)(c:TC)(Γ:Nat->∅):Prop where
 hN:X.N=c.N
 hsc:X.env.scope=c.sc
 nd:c.N.Nodup
 calm:X.calm=true
 kind:X.env.scope.kind=.function
 calls:∀x f n,c.fns.lookup x=some (f,n)->yiq X x n (Γ f)
 xf:c.xs=true->BFacts X.K
 un:X.A.units+64<cLine
 blt:∀x∈zdg,X.mg x=none
structure XC(X:Cx)(c:TC)(Γ:Nat->∅):Prop extends XE X c Γ where
 fn:∀x,X.fn x=true
 po:PassesOwn (model X.prog X.w) X.A X.env X.xe
 rz:∀x f n,c.rzs.lookup x=some (f,n)->ypg X x n (Γ f)
 st:X.stack=X.env::X.outer
 fr:X.env.frame=some X.env.locals
 nx:X.nox=X
section
variable{X:Cx}{c:TC}{Γ:Nat->∅}
def zak(d:XE X c Γ){x:Str}{i:Nat}(h:slot c x=some i):X.N[i]? = some x/\Loc X.env.scope x/\(x == ("__debug__" : Str))=false/\(x == ("__classdict__" : Str))=false:=by
 unfold slot at h;by_cases z:(x == ("__debug__" : Str))=true\/(x == ("__classdict__" : Str))=true
 ·rw[if_pos z] at h;cases h
 ·rw[if_neg z] at h;have f:(x == ("__debug__" : Str))=false:=by
   cases q:(x == ("__debug__" : Str)) with
   |false=>rfl
   |true=>exact absurd (.inl q) z
  have g:(x == ("__classdict__" : Str))=false:=by
   cases q:(x == ("__classdict__" : Str)) with
   |false=>rfl
   |true=>exact absurd (.inr q) z
  split at h
  ·rename_i e;exact⟨by rw[d.hN];exact zeb h,by rw[d.hsc];exact .inl e,f,g⟩
  ·rename_i e;exact⟨by rw[d.hN];exact zeb h,by rw[d.hsc];exact .inr e,f,g⟩
  ·cases h
def Loc.vis{sc:Scope}{x:Str}(h:Loc sc x):Vis sc x:=by
 rcases h with h|h
 ·exact .inl h
 ·exact .inr (.inl h)
def zer(d:XE X c Γ){x:Str}(h:isGl c x=true):Gl X x/\(x == ("__debug__" : Str))=false:=by
 unfold isGl at h;rw[Zk] at h;refine⟨?_,by simpa using h.1⟩
 show X.env.scope.names.lookup x=_;rw[d.hsc];exact of_decide_eq_true h.2
def zev{f:Rho}{i:Nat}{d:D}(h:varD f i=some d):f[i]? = some (some d):=by
 unfold varD at h;split at h
 ·rename_i e;cases h;exact e
 ·cases h
def zds{d:D}{i:Int}(h:dInt d=some i):d=.int i:=by
 cases d<;>first|(cases h;rfl)|(cases h;done)
def zuw{d:D}{i:Bool}(h:zax d=some i):d=.bl i:=by
 cases d<;>first|(cases h;rfl)|(cases h;done)
def zoc{o:Option W}{d:D}(h:o.map W.d=some d):∃w,o=some w/\w.d=d:=Zb.mp h
def ybh{f:Int->Int->Option W}{x y:D}{w:W}(h:arW f x y=some w):∃a b,x=.int a/\y=.int b/\f a b=some w:=by
 unfold arW at h;split at h
 ·exact⟨_,_,rfl,rfl,h⟩
 ·cases h
def op_ok{v A:Expr}{t:Operator}{o:Op}{x y:D}{w:W}{u:Rho}{pos:Pos}(B:trOp t=some o)(f:DF X v u x)(g:DF X A u y)(h:opW o x y=some w):DE X (.BinOp v t A pos) u w:=by
 have e:∀{a:Int}{n:Nat},a.natAbs<2^n->Builtin.Int.intBits a<=n:=λ{a n} h=>by
  unfold Builtin.Int.intBits;by_cases z:a=0
  ·rw[if_pos (by simpa using z)];exact Yr _
  ·rw[if_neg (by simpa using z)];have:=(Nat.log2_lt vB).mpr h
   omega
 cases t<;>first|(cases B;done)|skip
 all_goals cases B
 ·change addW x y=some w at h
  unfold addW at h;split at h
  ·cases h;exact DE.opI0 op_add f g λK F=>Den.int_mk
  ·rename_i l m;by_cases q:l.length+m.length<=sizeLine
   ·rw[if_pos q] at h;cases h;exact DE.cat f g q
   ·rw[if_neg q] at h;cases h
  ·cases h
 ·obtain⟨i,j,rfl,rfl,d⟩:=ybh h
  clear h;have h:=d;clear d;cases h;exact DE.opI0 op_sub f g λK F=>Den.int_mk
 ·obtain⟨i,j,rfl,rfl,d⟩:=ybh h
  clear h;have h:=d;clear d;by_cases q:Bw i j=true
  ·rw[if_pos q] at h;cases h;unfold Bw at q;rw[Zk] at q;have p:=of_decide_eq_true q.1;have s:=of_decide_eq_true q.2;exact DE.opI (C:=IntMulOk) (L2.opI λ_ _ _ _ _ _ _ r q=>mul_int q r) f g (PySem.IntMulOk.of_bits (Wg (e p) vA) (Wg (e s) vA)) λK F=>Den.int_mk
  ·rw[if_neg q] at h;cases h
 ·obtain⟨i,j,rfl,rfl,d⟩:=ybh h
  clear h;have h:=d;clear d;by_cases q:j=0
  ·rw[if_pos q] at h;cases h
  ·rw[if_neg q] at h;cases h;exact DE.opI yli f g q λK F=>Den.int_mk
 ·obtain⟨i,j,rfl,rfl,d⟩:=ybh h
  clear h;have h:=d;clear d;by_cases q:zfy i j=true
  ·rw[if_pos q] at h;cases h;unfold zfy at q;rw[Zk,Zk] at q;have p:=of_decide_eq_true q.1.1;have s:=of_decide_eq_true q.1.2;have E:=of_decide_eq_true q.2;exact DE.opI op_pow f g ⟨p,by omega,E⟩ λK F=>Den.int_mk
  ·rw[if_neg q] at h;cases h
 ·obtain⟨i,j,rfl,rfl,d⟩:=ybh h
  clear h;have h:=d;clear d;by_cases q:zbt j=true
  ·rw[if_pos q] at h;cases h;unfold zbt at q;rw[Zk] at q;have p:=of_decide_eq_true q.1;have s:=of_decide_eq_true q.2;refine DE.opI (C:=λi j=>j≠0/\j.natAbs<2^9000) (L2.opI λ_ _ _ _ _ _ _ r q=>floordiv_int r.1 q (.inl (PyProof.noPylong_of_log2 ?_))) f g ⟨p,s⟩ λK F=>Den.int_mk
   refine(Nat.log2_lt ?_).mpr r.2;have:=r.1
   omega
  ·rw[if_neg q] at h;cases h
end
open PySem L2 PyProof.Rows
section
variable{X:Cx}{c:TC}{Γ:Nat->∅}
def zei{a b:Bool}(h:(a && b)=true):a=true/\b=true:=by simpa using h
def zse{f:Int->Int->Bool}{x y:D}{k:Bool}(h:ordO f x y=some k):∃a b,x=.int a/\y=.int b/\f a b=k:=by
 unfold ordO at h;split at h
 ·cases h;exact⟨_,_,rfl,rfl,rfl⟩
 ·cases h
def inO_s{x y:D}{k:Bool}(h:inO x y=some k):∃l,y=.lst l/\dOk 50 x=true/\dOkL 49 l=true/\(l.any λy=>eqD y x)=k:=by
 unfold inO at h;split at h
 ·split at h
  ·rename_i q;cases h;exact⟨_,rfl,(zei q).1,(zei q).2,rfl⟩
  ·cases h
 ·cases h
def yhl{x y:D}{k:Bool}(h:nonO x y=some k):y=.non/\zol x=k:=by
 unfold nonO at h;split at h
 ·cases h;exact⟨rfl,rfl⟩
 ·cases h
def yia{x y:D}{k:Bool}(e:X.A.units+64<cLine)(h:eqO x y=some k):zcx X .Eq x y k/\zcx X .NotEq x y (!k):=by
 have f:∀{l:List D},dOkL 49 l=true->dOk 50 (.lst l)=true:=λq=>by simp only[dOk];exact q
 have g:∀{l:List D},dOkL 49 l=true->dOk 50 (.tup l)=true:=λq=>by simp only[dOk];exact q
 unfold eqO at h;split at h
 ·cases h;exact⟨yoc,yny⟩
 ·cases h;exact⟨yod,ynz⟩
 ·split at h
  ·rename_i q;cases h;have z:=yae (X:=X) e (g (zei q).1) (g (zei q).2);have d:=yad (X:=X) e (g (zei q).1) (g (zei q).2);simp only[eqD] at z d;exact⟨z,d⟩
  ·cases h
 ·split at h
  ·rename_i q;cases h;have z:=yae (X:=X) e (f (zei q).1) (f (zei q).2);have d:=yad (X:=X) e (f (zei q).1) (f (zei q).2);simp only[eqD] at z d;exact⟨z,d⟩
  ·cases h
 ·cases h
def yif{g:CmpOp}{o:Cm}{x y:D}{k:Bool}(f:X.A.units+64<cLine)(n:trCm g=some o)(h:cmpD o x y=some k):zcx X g x y k:=by
 cases g<;>first|(cases n;done)|skip
 all_goals cases n
 ·exact(yia f h).1
 ·obtain⟨j,d,e⟩:=Zb.mp h
  subst e;exact(yia f d).2
 ·obtain⟨a,b,rfl,rfl,rfl⟩:=zse h
  exact cmp_lt
 ·obtain⟨a,b,rfl,rfl,rfl⟩:=zse h
  exact cmp_le
 ·obtain⟨a,b,rfl,rfl,rfl⟩:=zse h
  exact cmp_gt
 ·obtain⟨a,b,rfl,rfl,rfl⟩:=zse h
  exact cmp_ge
 ·obtain⟨rfl,rfl⟩:=yhl h
  exact yoa
 ·obtain⟨j,d,e⟩:=Zb.mp h
  subst e;obtain⟨rfl,rfl⟩:=yhl d
  exact yfn
 ·obtain⟨l,rfl,i,m,rfl⟩:=inO_s h
  exact yob f i m
 ·obtain⟨j,d,e⟩:=Zb.mp h
  subst e;obtain⟨l,rfl,i,m,rfl⟩:=inO_s d
  exact yfo f i m
def zwa{x:Str}{t:Bi}(h:trBi x=some t):x=Str.ofString t.nm:=by
 unfold trBi at h;repeat' split at h
 all_goals first|(cases h;assumption)|(cases h;done)
def bi_ok{b:Bi}{d:List D}{w:W}(f:X.calm=true)(i:X.A.units+64<cLine)(h:biW b d=some w):zha X (.builtin b.nm) d w:=by
 cases b
 ·change lenW d=_ at h
  unfold lenW at h;split at h
  ·cases h;exact yfz
  ·cases h;exact yfy
  ·cases h
 ·change absW d=_ at h
  unfold absW at h;split at h
  ·cases h;exact yol
  ·cases h
 ·change minW d=_ at h
  unfold minW at h;split at h
  ·cases h;exact yoj f
  ·obtain⟨m,g,e⟩:=Zb.mp h
   subst e;exact yfw f i g
  ·cases h
 ·change maxW d=_ at h
  unfold maxW at h;split at h
  ·cases h;exact yok f
  ·obtain⟨m,h,e⟩:=Zb.mp h
   obtain⟨l,g,j⟩:=Za.mp h
   subst e;exact yfx f g j
  ·cases h
 ·cases h
 ·change srtW d=_ at h
  unfold srtW at h;split at h
  ·obtain⟨n,g,h⟩:=Za.mp h
   split at h
   ·rename_i q;cases h;exact yoi f g q.1 q.2
   ·cases h
  ·cases h
def yoh(b:Bi):bootBuiltins (Str.ofString b.nm)=some (.builtin b.nm):=by cases b<;>decide +kernel
def yau(b:Bi):Str.ofString b.nm ≠ "__name__" /\ Str.ofString b.nm∈zdg:=by cases b<;>decide +kernel
theorem zew:∀{n:Nat}{d:List Expr}{l:Es},trEs n c d=some l->d.all Bm=true
 |0,_,_,h=>by simp only[trEs] at h;cases h
 |n+1,[],_,_=>rfl
 |n+1,e::d,l,h=>by
  simp only[trEs] at h;by_cases q:Bm e=true
  ·rw[if_pos q] at h;obtain⟨f,_,h⟩:=Za.mp h
   obtain⟨g,h,_⟩:=Zb.mp h
   rw[Qe,q,zew h];rfl
  ·rw[if_neg q] at h;cases h
def yna:∀{l:Es}{m:Rho}{i:List D}{n:Nat}{f:List Expr},trEs n c f=some l->evs Γ l m=some i->i.length=f.length:=by
 intro l m i n;induction n generalizing l i with
 |zero=>intro f h;simp only[trEs] at h;cases h
 |succ n o=>
  intro f h g;cases f with
  |nil=>
   simp only[trEs] at h;cases h;simp only[evs] at g;cases g;rfl
  |cons e f=>
   simp only[trEs] at h;by_cases q:Bm e=true
   ·rw[if_pos q] at h;obtain⟨s,_,h⟩:=Za.mp h
    obtain⟨t,p,z⟩:=Zb.mp h
    subst z;simp only[evs] at g;obtain⟨d,_,g⟩:=Za.mp g
    obtain⟨r,j,z⟩:=Zb.mp g
    subst z;rw[Zv,Zv,o p j]
   ·rw[if_neg q] at h;cases h
def zyz{x:Str}{f k:Nat}(e:XE X c Γ)(d:zop c x=.fn f k):c.fns.lookup x=some (f,k)/\Gl X x/\(x == ("__debug__" : Str))=false:=by
 unfold zop at d;split at d
 ·rename_i g;split at d
  ·rename_i i j h;cases d;exact⟨h,zer e g⟩
  ·split at d
   ·cases d
   ·split at d
    ·cases d
    ·split at d<;>cases d
 ·cases d
def zza{x:Str}{b:Bi}(e:XE X c Γ)(d:zop c x=.bi b):x=Str.ofString b.nm/\Gl X x/\(x == ("__debug__" : Str))=false:=by
 unfold zop at d;split at d
 ·rename_i f;split at d
  ·cases d
  ·split at d
   ·rename_i h g;cases d;exact⟨zwa g,zer e f⟩
   ·split at d
    ·cases d
    ·split at d<;>cases d
 ·cases d
def zel(d:XE X c Γ){x:Str}{y:String}(h:isB c x y=true):Gl X x/\x=Str.ofString y:=by
 unfold isB at h;rw[Zk,Zk] at h;exact⟨(zer d h.1.1).1,of_decide_eq_true h.2⟩
def yez{x:Str}{e g:List Expr}{f:Fm}(h:fmN c x e=some (f,g)):∃y i j a d,e=[.Call (.Name y i) (a::d) [] j]/\g=a::d/\((f=.zip/\isB c x "list" = true/\isB c y "zip" = true)):=by
 unfold fmN at h;split at h
 ·split at h
  ·rename_i q;cases h;exact⟨_,_,_,_,_,rfl,rfl,⟨rfl,q.1,q.2⟩⟩
  ·cases h
 ·cases h
def fm_ok(g:XE X c Γ){x:Str}{p pos:Pos}{s m:List Expr}{f:Fm}{t:List D}{w:W}{u:Rho}(e:fmOf c x s=some (f,m))(j:m.all Bm=true)(v:DA X m u t)(d:fmW f t=some w):DE X (.Call (.Name x p) s [] pos) u w:=by
 have H:X.A.units+16<cLine:=by have:=g.un;omega
 unfold fmOf at e;split at e
 ·rename_i r z;cases e;obtain⟨y,I,J,a,B,rfl,rfl,h⟩:=yez z
  rw[Qe,Zk] at j;rcases h with⟨rfl,n,C⟩
  ·obtain⟨o,q⟩:=zel g n
   obtain⟨E,F⟩:=zel g C
   subst q;subst F;unfold fmW at d;split at d
   all_goals first|(rename_i i;cases i;done)|skip
   all_goals first|(rename_i l i;cases i;done)|skip
   all_goals rename_i K L i
   ·split at d
    ·rename_i G;cases d;exact DE.nestT (ydy g.calm G) o (g.blt _ (by decide +kernel)) (by decide +kernel) vA vA E (g.blt _ (by decide +kernel)) (by decide +kernel) vA vA v j.1 j.2
    ·cases d
   ·cases d
 ·unfold fmT at e;split at e
  ·split at e
   ·rename_i a n;cases e;obtain⟨o,q⟩:=zel g n
    subst q;rw[Qe,Zk] at j;unfold fmW at d;split at d
    all_goals first|(rename_i i;cases i;done)|skip
    all_goals rename_i l i
    all_goals first|(cases i;done)|skip
    ·cases d;exact DE.ty yaq o (g.blt _ (by decide +kernel)) (by decide +kernel) vA vA v j.1 j.2
    ·cases d
   ·cases e
  ·cases e
def znj{d:D}{l:List D}(h:seqD d=some l):d=.lst l\/d=.tup l:=by
 cases d<;>first|(cases h;done)|(cases h;first|exact .inl rfl|exact .inr rfl)
def zoe{d:D}{l:List D}(h:lstD d=some l):d=.lst l:=by
 cases d<;>first|(cases h;done)|(cases h;rfl)
def yjc{A:Expr->Option E}(p:XE X c Γ)(r:∀{e j n d},A e=some j->(ev Γ j n).map W.d=some d->DF X e n d){v e:Expr}{i:It'}{n:Rho}{l:List D}(h:trI1 A c v e=some i)(f:evW Γ i n=some l):DIe X v e n l/\zys e=false:=by
 have M:∀{e j n k},A e=some j->((ev Γ j n).map W.d).bind dInt=some k->DF X e n (.int k):=λ{e j n k} h f=>by
  obtain⟨d,g,o⟩:=Za.mp f
  rw[zds o] at g;exact r h g
 have B:∀{e j n l},A e=some j->evW Γ (.seq j) n=some l->DIe X v e n l:=λ{e j n l} h f=>by
  simp only[evW] at f;obtain⟨d,g,o⟩:=Za.mp f
  rcases znj o with z|z
  ·subst z;exact DIe.list (r h g)
  ·subst z;exact DIe.tup (r h g)
 unfold trI1 at h;split at h
 ·refine⟨?_,rfl⟩
  split at h
  ·rename_i q;obtain⟨C,s,h⟩:=Zb.mp h
   subst h;simp only[evW] at f;obtain⟨m,N,f⟩:=Za.mp f
   split at f
   ·rename_i z;cases f;obtain⟨t,u⟩:=zel p q.1
    subst u;exact DIe.range1 t (p.blt _ (by decide +kernel)) (DA.cons (M s N) DA.nil q.2) q.2 z.1 z.2
   ·cases f
  ·split at h
   ·rename_i q;obtain⟨C,s,h⟩:=Zb.mp h
    subst h;simp only[evW] at f;obtain⟨O,F,f⟩:=Zb.mp f
    subst f;obtain⟨d,g,o⟩:=Za.mp F
    rw[zoe o] at g;obtain⟨t,u⟩:=zel p q.1
    subst u;cases v<;>first|(cases q.2.2;done)|skip
    exact DIe.enum t (p.blt _ (by decide +kernel)) (DA.cons (r s g) DA.nil q.2.1) q.2.1
   ·split at h
    ·rename_i q;obtain⟨C,s,h⟩:=Zb.mp h
     subst h;simp only[evW] at f;obtain⟨O,F,f⟩:=Zb.mp f
     subst f;obtain⟨d,g,o⟩:=Za.mp F
     rw[zoe o] at g;obtain⟨t,u⟩:=zel p q.1
     subst u;exact DIe.rev t (p.blt _ (by decide +kernel)) (DA.cons (r s g) DA.nil q.2) q.2
    ·obtain⟨j,w,h⟩:=Zb.mp h
     subst h;exact B w f
 ·refine⟨?_,rfl⟩
  split at h
  ·rename_i q;obtain⟨C,s,h⟩:=Za.mp h
   obtain⟨T,P,h⟩:=Zb.mp h
   subst h;simp only[evW] at f;obtain⟨l1,G,f⟩:=Za.mp f
   obtain⟨l2,H,f⟩:=Za.mp f
   obtain⟨U,g,Q⟩:=Za.mp G
   obtain⟨V,o,R⟩:=Za.mp H
   split at f
   ·rename_i z;cases f;obtain⟨t,u⟩:=zel p q.1
    subst u;cases v<;>first|(cases q.2.2.2;done)|skip
    exact DIe.zg t (p.blt _ (by decide +kernel)) (DA.cons (r s g) (DA.cons (r P o) DA.nil q.2.2.1) q.2.1) Q R q.2.1 q.2.2.1 z
   ·cases f
  ·obtain⟨j,w,h⟩:=Zb.mp h
   subst h;exact B w f
 ·obtain⟨i,S,h⟩:=Zb.mp h
  subst h;simp only[evW] at f;obtain⟨d,g,o⟩:=Za.mp f
  obtain⟨I,J,K,L⟩:=zak p S
  refine⟨?_,rfl⟩
  rcases znj o with z|z
  ·subst z;exact DIe.list (DF.var I (Loc.vis J) K L (zev g))
  ·subst z;exact DIe.tup (DF.var I (Loc.vis J) K L (zev g))
 ·split at h
  ·rename_i q;obtain⟨j,w,h⟩:=Zb.mp h
   subst h;exact⟨B w f,q⟩
  ·cases h
def ylr{e:Expr}{env:Env}(h:zys e=false):∀x,foldedSetIterable e env x=pure x:=λx=>by
 cases e<;>first|(cases h;done)|rfl
def blk_xe(d:XE X c Γ){scope:Scope}(e:zux c scope=true){f:Cx}(h:ygp X scope (locs scope++frs' scope) f):XE f (blkC c scope) Γ:=by
 obtain⟨m,C,g,i,ex,rfl⟩:=h
 unfold zux at e;simp only[Zk,decide_eq_true_eq] at e;obtain⟨⟨⟨⟨⟨j,n⟩,o⟩,p⟩,l⟩,q⟩:=e
 refine⟨rfl,?_,l,d.calm,?_,d.calls,d.xf,d.un,d.blt⟩
 ·show relabel scope X.env=relS scope c.sc;rw[<-d.hsc];rfl
 ·show(relabel scope X.env).kind=.function;exact j
def yed{sc:Scope}{x:Str}(h:x∈frs' sc):(x,NameKind.free)∈sc.names:=by
 unfold frs' at h;obtain⟨y,d,e⟩:=Ul.mp h
 split at e
 ·rename_i k;cases e;rw[<-k];exact d
 ·cases e
theorem zsq{N:List Str}:∀{l:List Str}{fr:List Nat},frIx N l=some fr->fr.length=l.length/\∀(m:Nat) (x:Str),l[m]? = some x->∃j:Nat,fr[m]? = some j/\N[j]? = some x
 |[],fr,h=>by simp only[frIx] at h;cases h;exact⟨rfl,λm x e=>by simp at e⟩
 |y::l,fr,h=>by
  simp only[frIx] at h;obtain⟨i,d,h⟩:=Za.mp h
  obtain⟨r,f,h⟩:=Zb.mp h
  subst h;obtain⟨g,n⟩:=zsq f
  refine⟨by rw[Zv,Zv,g],λm x e=>?_⟩
  cases m with
  |zero=>simp at e;subst e;exact⟨i,by simp,zeb d⟩
  |succ m=>simpa using n m x (by simpa using e)
def ynw(d:XE X c Γ){scope:Scope}{fr:List Nat}(f:zux c scope=true)(h:frIx c.N (frs' scope)=some fr):CompOk X scope (locs scope) (frs' scope) fr:=by
 unfold zux at f;simp only[Zk,decide_eq_true_eq,U2] at f;obtain⟨⟨⟨⟨⟨i,l⟩,n⟩,g⟩,u⟩,v⟩:=f
 obtain⟨o,p⟩:=zsq h
 refine⟨i,l,n,λy q r=>?_,λm x e=>?_,o⟩
 ·show X.env.scope.names.lookup y.1=_;rw[d.hsc];exact(g y q r).1
 ·obtain⟨j,s,t⟩:=p m x e
  have:=g _ (yed (Yq e)) rfl
  refine⟨this.2,?_,j,s,by rw[d.hN];exact t⟩
  show X.env.scope.names.lookup x=_;rw[d.hsc];exact this.1
def zru(d:XE X c Γ){x:Str}{i:Nat}(h:ycn c x=some i):X.N[i]? = some x/\X.env.scope.names.lookup x=some .local:=by
 unfold ycn at h;split at h
 ·rename_i k;exact⟨by rw[d.hN];exact zeb h,by rw[d.hsc];exact k⟩
 ·cases h
def zez{f e:Rho}{i:Nat}{d:D}(h:setE f i d=some e):i<f.length/\e=f.set i (some d):=by
 unfold setE at h;by_cases q:i<f.length
 ·rw[if_pos q] at h;cases h;exact⟨q,rfl⟩
 ·rw[if_neg q] at h;cases h
theorem znf(o:XE X c Γ):∀{n:List Expr}{r:List Nat}{f:List D}{s j:Rho},zng c n=some r->zck r f s=some j->DGse X n f s j/\n.all Bm=true/\f.length=n.length
 |[],r,f,s,j,h,m=>by
  simp only[zng] at h;cases h;cases f with
  |nil=>cases m;exact⟨DGse.nil,rfl,rfl⟩
  |cons d f=>cases m
 |t::n,r,f,s,j,h,m=>by
  unfold zng at h;split at h
  ·rename_i z;cases z
  ·rename_i x p F z;cases z;obtain⟨i,u,h⟩:=Za.mp h
   obtain⟨l,v,h⟩:=Zb.mp h
   subst h;cases f with
   |nil=>cases m
   |cons d f=>
    simp only[zck] at m;obtain⟨w,A,m⟩:=Za.mp m
    obtain⟨q,e⟩:=zez A
    subst e;obtain⟨g,B,g3⟩:=znf o v m
    obtain⟨C,E⟩:=zru o u
    exact⟨DGse.cons (DGe.name (by rw[o.hN];exact o.nd) C E q) g rfl,by rw[Qe,B];rfl,by rw[Zv,Zv,g3]⟩
  ·cases h
def ycg(j:XE X c Γ){n:Expr}{t:Tg}(h:ych c n=some t){d:D}{o m:Rho}(f:zbw t d o=some m):DGe X n d o m:=by
 unfold ych at h;split at h
 ·obtain⟨i,p,h⟩:=Zb.mp h
  subst h;simp only[zbw] at f;obtain⟨q,e⟩:=zez f
  subst e;obtain⟨r,s⟩:=zru j p
  exact DGe.name (by rw[j.hN];exact j.nd) r s q
 ·obtain⟨l,u,h⟩:=Zb.mp h
  subst h;cases d<;>first|(simp only[zbw] at f;cases f;done)|skip
  simp only[zbw] at f;obtain⟨g,v,g3⟩:=znf j u f
  exact DGe.tup j.calm g v g3
 ·cases h
theorem zfn{o:Nat}{fr:List Nat}{ρ0:Rho}:∀{p:List Nat}{l:List D}{n f:Rho},(p.all λi=>decide (i<o))=true->zck p l n=some f->(∀(i:Nat) d,(blkR o fr ρ0)[i]? = some (some d)->n[i]? = some (some d))->∀(i:Nat) d,(blkR o fr ρ0)[i]? = some (some d)->f[i]? = some (some d)
 |[],l,n,f,_,g,h=>by
  cases l with
  |nil=>cases g;exact h
  |cons d l=>cases g
 |j::p,l,n,f,r,g,h=>by
  cases l with
  |nil=>cases g
  |cons d l=>
   rw[Qe,Zk] at r;simp only[zck] at g;obtain⟨s,t,g⟩:=Za.mp g
   obtain⟨q,e⟩:=zez t
   subst e;refine zfn r.2 g λi u e=>?_;obtain⟨m,_,v,_,_⟩:=zec e
   have:=of_decide_eq_true r.1
   rw[Yj vB];exact h i u e
def zou{h:Nat}{fr:List Nat}{ρ0:Rho}{t:Tg}{d:D}{g:Rho}(l:tgOk h t=true)(f:zbw t d (blkR h fr ρ0)=some g):∀(i:Nat) d,(blkR h fr ρ0)[i]? = some (some d)->g[i]? = some (some d):=by
 cases t with
 |name j=>
  simp only[zbw] at f;obtain⟨q,e⟩:=zez f
  subst e;intro i n e;obtain⟨m,_,o,_,_⟩:=zec e
  have:=of_decide_eq_true l
  rw[Yj vB];exact e
 |tup p=>
  cases d<;>first|(simp only[zbw] at f;cases f;done)|skip
  simp only[zbw] at f;exact zfn l f λi d e=>e
def ybn(X:Cx)(p r j:Expr)(l:List Expr)(scope:Scope)(q:Rho)(w:W):Prop:=∃(g m:List D) (f:D->Option (Option D)) (fr:List Nat),w=.new m/\CompOk X scope (locs scope) (frs' scope) fr/\DIe X r j q g/\(∀x,foldedSetIterable j X.env x=pure x)/\g.length<=sizeLine/\zca f g=some m /\
 ∀(n:Cx),ygp X scope (locs scope++frs' scope) n->∀(d:D) (o:Option D),d∈g->f d=some o->∃h,DGe n r d (blkR (locs scope).length fr q) h/\(∀(i:Nat) d,(blkR (locs scope).length fr q)[i]? = some (some d)->h[i]? = some (some d)) /\
   (match o with|none=>DTs n l h false|some e=>DTs n l h true/\DF n p h e)
def zko{n:Nat}(D:XE X c Γ)(T:∀{e g i d},trE n c e=some g->(ev Γ g i).map W.d=some d->DF X e i d)(U:∀p v,XE p v Γ->∀e g i w,trE n v e=some g->ev Γ g i=some w->DE p e i w)
 (V:∀p v,XE p v Γ->∀e g i k,trT n v e=some g->((ev Γ g i).map W.d).bind zax=some k->DT p e i k){A F s:Expr}{q:List Expr}{scope:Scope}{g:E}{i:Rho}{w:W}
 (h:(if zux c scope=true then(trI1 (trE n c) c F s).bind λP=>(ych (blkC c scope) F).bind λt=>(frIx c.N (frs' scope)).bind λfr=>
   (trE n (blkC c scope) A).bind λe=>(zvz (trT n (blkC c scope)) q).map λk=>E.comp e t P (locs scope).length fr k else none)=some g)(l:ev Γ g i=some w):ybn X A F s q scope i w:=by
 split at h
 case isFalse=>cases h
 rename_i Q;obtain⟨P,G,h⟩:=Za.mp h
 obtain⟨t,Y,h⟩:=Za.mp h
 obtain⟨fr,H,h⟩:=Za.mp h
 obtain⟨e1,I,h⟩:=Za.mp h
 obtain⟨k,f,h⟩:=Zb.mp h
 subst h;simp only[ev] at l;obtain⟨items,Z,l⟩:=Za.mp l
 split at l
 case isFalse=>cases l
 rename_i z;obtain⟨a0,B,l⟩:=Zb.mp l
 subst l;obtain⟨d1,d2⟩:=yjc D (λh l=>T h l) G Z
 refine⟨_,_,_,_,rfl,ynw D Q H,d1,ylr d2,z.1,B,λp J d o hd m=>?_⟩
 obtain⟨C,R,m⟩:=Za.mp m
 obtain⟨S,r,m⟩:=Za.mp m
 have u:=blk_xe D Q J;have j:DTs p q C S:=by
  revert f
  cases q with
  |nil=>
   intro f;simp only[zvz] at f;cases f;simp only[evc] at r;cases r;exact .inl ⟨rfl,rfl⟩
  |cons c1 rest=>
   cases rest with
   |nil=>
    intro f;simp only[zvz] at f;obtain⟨c2,K,f⟩:=Zb.mp f
    subst f;simp only[evc] at r;exact .inr ⟨c1,rfl,V p _ u _ _ _ _ K r⟩
   |cons c2 rest=>
    intro f;simp only[zvz] at f;cases f
 refine⟨C,ycg u Y R,zou z.2 R,?_⟩
 cases S with
 |false=>
  rw[if_neg Zw] at m;cases m;exact j
 |true=>
  rw[if_pos rfl] at m;obtain⟨de,L,m⟩:=Zb.mp m
  subst m;obtain⟨w,M,O⟩:=zoc L
  subst O;exact⟨j,(U p _ u _ _ _ _ I M).df⟩
def zia:∀n (X:Cx) (c:TC),XE X c Γ->(∀e s m w,trE n c e=some s->ev Γ s m=some w->DE X e m w)/\(∀D l m M,trEs n c D=some l->evs Γ l m=some M->DA X D m M) /\
  (∀o o' m i,trO n c o=some o'->evo Γ o' m=some i->DO X o m i)/\(∀e s m k,trT n c e=some s->((ev Γ s m).map W.d).bind zax=some k->DT X e m k) /\
  (∀Q D p s m k,trT n c (.BoolOp Q D p)=some s->((ev Γ s m).map W.d).bind zax=some k->DW X (.BoolOp Q D p) m k):=by
 intro n;induction n with
 |zero=>exact λX c B=>⟨λe s m w h=>by(simp only[trE] at h;cases h),λe s m w h=>by(simp only[trEs] at h;cases h),λe s m w h=>by(simp only[trO] at h;cases h),λe s m w h=>by(simp only[trT] at h;cases h),λQ D p s m w h=>by(simp only[trT] at h;cases h)⟩
 |succ n R=>
  intro X c B;obtain⟨S,I,iO,O,iW⟩:=R X c B
  have C:∀{e s m d},trE n c e=some s->(ev Γ s m).map W.d=some d->DF X e m d:=λ{e s m d} h g=>by
   obtain⟨w,L,T⟩:=zoc g
   subst T;exact(S _ _ _ _ h L).df
  have Y:∀{e s m k},trE n c e=some s->((ev Γ s m).map W.d).bind zax=some k->DF X e m (.bl k):=λ{e s m k} h g=>by
   obtain⟨d,L,T⟩:=Za.mp g
   rw[zuw T] at L;exact C h L
  have iI:∀{e s m k},trE n c e=some s->((ev Γ s m).map W.d).bind dInt=some k->DF X e m (.int k):=λ{e s m k} h g=>by
   obtain⟨d,L,T⟩:=Za.mp g
   rw[zds T] at L;exact C h L
  have Z:∀Q D p s m k,trT (n+1) c (.BoolOp Q D p)=some s->((ev Γ s m).map W.d).bind zax=some k->DW X (.BoolOp Q D p) m k:=by
   intro Q D p s m k h g;simp only[trT] at h;change trB _ p D Q=some s at h
   unfold trB at h;split at h
   ·unfold yje at h;split at h
    ·exact DW.and1 (O _ _ _ _ h g)
    ·obtain⟨J,u,h⟩:=Za.mp h
     obtain⟨P,A,h⟩:=Zb.mp h
     subst h;simp only[ev] at g;obtain⟨d,E,g⟩:=Za.mp g
     obtain⟨w,F,z⟩:=zoc E
     subst z;obtain⟨k1,v,r⟩:=Za.mp F
     cases k1 with
     |true=>
      rw[if_pos rfl] at r;exact DW.andT (O _ _ _ _ u v) (iW _ _ _ _ _ _ A (by rw[r];exact g))
     |false=>
      rw[if_neg Zw] at r;cases r;cases g;exact DW.andF (O _ _ _ _ u v) zrw
    ·cases h
   ·unfold trOr at h;split at h
    ·exact DW.or1 (O _ _ _ _ h g)
    ·obtain⟨J,u,h⟩:=Za.mp h
     obtain⟨P,A,h⟩:=Zb.mp h
     subst h;simp only[ev] at g;obtain⟨d,E,g⟩:=Za.mp g
     obtain⟨w,F,z⟩:=zoc E
     subst z;obtain⟨k1,v,r⟩:=Za.mp F
     cases k1 with
     |true=>
      rw[if_pos rfl] at r;cases r;cases g;exact DW.orT (O _ _ _ _ u v) zrw
     |false=>
      rw[if_neg Zw] at r;exact DW.orF (O _ _ _ _ u v) (iW _ _ _ _ _ _ A (by rw[r];exact g))
    ·cases h
  refine⟨λe s m w h g=>?_,λD l m M h g=>?_,λo o' m i h g=>?_,λe s m k h g=>?_,Z⟩
  ·simp only[trE] at h;unfold trE1 at h;split at h
   ·-- Name
    obtain⟨i,L,T⟩:=Zb.mp h
    subst T;simp only[ev] at g;obtain⟨d,h3,h4⟩:=Zb.mp g
    subst h4;obtain⟨a1,a2,a3,a4⟩:=zak B L
    exact(DF.var a1 (Loc.vis a2) a3 a4 (zev h3)).de
   ·unfold trK at h;split at h
    ·cases h;simp only[ev] at g;cases g;exact DF.cint.de
    ·cases h;simp only[ev] at g;cases g;exact DF.cbl.de
    ·cases h;simp only[ev] at g;cases g;exact DF.cnon.de
    ·cases h
   ·-- BinOp
    obtain⟨o,ho,h⟩:=Za.mp h
    obtain⟨J,u,h⟩:=Za.mp h
    obtain⟨P,A,h⟩:=Zb.mp h
    subst h;simp only[ev] at g;obtain⟨x,K,g⟩:=Za.mp g
    obtain⟨y,N,g⟩:=Za.mp g
    exact op_ok ho (C u K) (C A N) g
   ·unfold trU at h;split at h
    ·-- USub
     obtain⟨J,u,h⟩:=Zb.mp h
     subst h;simp only[ev] at g;obtain⟨i,U,g⟩:=Zb.mp g
     subst g;exact DE.neg (iI u U)
    ·-- Not
     obtain⟨J,u,h⟩:=Zb.mp h
     subst h;simp only[ev] at g;obtain⟨i,U,g⟩:=Zb.mp g
     subst g;exact DE.not (Y u U)
    ·cases h
   ·unfold trB at h;split at h
    ·unfold yje at h;split at h
     ·exact DE.one (S _ _ _ _ h g)
     ·-- And
      obtain⟨J,u,h⟩:=Za.mp h
      obtain⟨P,A,h⟩:=Zb.mp h
      subst h;simp only[ev] at g;obtain⟨k,v,g⟩:=Za.mp g
      cases k with
      |true=>
       rw[if_pos rfl] at g;exact DE.andT (Y u v) (S _ _ _ _ A g)
      |false=>
       rw[if_neg Zw] at g;cases g;exact DE.andF (Y u v)
     ·cases h
    ·unfold trOr at h;split at h
     ·exact DE.one (S _ _ _ _ h g)
     ·-- Or
      obtain⟨J,u,h⟩:=Za.mp h
      obtain⟨P,A,h⟩:=Zb.mp h
      subst h;simp only[ev] at g;obtain⟨k,v,g⟩:=Za.mp g
      cases k with
      |true=>
       rw[if_pos rfl] at g;cases g;exact DE.orT (Y u v)
      |false=>
       rw[if_neg Zw] at g;exact DE.orF (Y u v) (S _ _ _ _ A g)
     ·cases h
   ·unfold trCp at h;split at h
    ·-- Compare
     split at h
     case isFalse=>cases h
     rename_i V;obtain⟨o,ho,h⟩:=Za.mp h
     obtain⟨J,u,h⟩:=Za.mp h
     obtain⟨P,A,h⟩:=Zb.mp h
     subst h;simp only[ev] at g;obtain⟨x,K,g⟩:=Za.mp g
     obtain⟨y,N,g⟩:=Za.mp g
     obtain⟨k,v,g⟩:=Zb.mp g
     subst g;exact DE.cmp (yif B.un ho v) (C u K) (C A N) V
    ·cases h
   ·-- Tuple
    obtain⟨l,G,h⟩:=Zb.mp h
    subst h;simp only[ev] at g;obtain⟨M,r,g⟩:=Za.mp g
    by_cases q:M.length<=sizeLine
    ·rw[if_pos q] at g;cases g;exact DE.tup (I _ _ _ _ G r) q
    ·rw[if_neg q] at g;cases g
   ·-- List
    obtain⟨l,G,h⟩:=Zb.mp h
    subst h;simp only[ev] at g;obtain⟨M,r,g⟩:=Za.mp g
    by_cases q:M.length<=sizeLine
    ·rw[if_pos q] at g;cases g;exact DE.lst (I _ _ _ _ G r) q
    ·rw[if_neg q] at g;cases g
   ·unfold trLC at h;split at h
    ·-- a comprehension
     obtain⟨items,a7,f,fr,e1,hC,hI,hS,hz,hr,A⟩:=zko B (λh g=>C h g) (λX' c' h=>(R X' c' h).1) (λX' c' h=>(R X' c' h).2.2.2.1) h g
     subst e1;exact DE.comp B.calm hC hI hS hz hr A
    ·cases h
   ·unfold trSb at h;split at h
    ·-- a slice
     obtain⟨J,u,h⟩:=Za.mp h
     obtain⟨l',G,h⟩:=Za.mp h
     obtain⟨h',hh,h⟩:=Zb.mp h
     subst h;simp only[ev] at g;obtain⟨x,K,g⟩:=Za.mp g
     obtain⟨i,U,g⟩:=Za.mp g
     obtain⟨j,hj,g⟩:=Za.mp g
     cases x<;>first|(cases g;done)|skip
     cases g;exact DE.slL (C u K) (iO _ _ _ _ G U) (iO _ _ _ _ hh hj)
    ·-- a subscript
     split at h
     ·rename_i hs;obtain⟨J,u,h⟩:=Za.mp h
      obtain⟨P,A,h⟩:=Zb.mp h
      subst h;simp only[ev] at g;obtain⟨x,K,g⟩:=Za.mp g
      obtain⟨y,N,g⟩:=Za.mp g
      obtain⟨d,r,g⟩:=Zb.mp g
      subst g;unfold ixD at r;split at r
      ·exact DE.ixT (C u K) (C A N) hs r
      ·exact DE.ixL (C u K) (C A N) hs r
      ·cases r
     ·cases h
   ·-- c if t else e
    obtain⟨t',ht,h⟩:=Za.mp h
    obtain⟨J,u,h⟩:=Za.mp h
    obtain⟨P,A,h⟩:=Zb.mp h
    subst h;simp only[ev] at g;obtain⟨k,v,g⟩:=Za.mp g
    cases k with
    |true=>rw[if_pos rfl] at g;exact DE.ifT (O _ _ _ _ ht v) (S _ _ _ _ u g)
    |false=>rw[if_neg vA] at g;exact DE.ifF (O _ _ _ _ ht v) (S _ _ _ _ A g)
   ·-- a field
    unfold trFd at h;split at h
    ·rename_i q;obtain⟨j,hj,h⟩:=Za.mp h
     obtain⟨J,u,h⟩:=Zb.mp h
     subst h;simp only[ev] at g;obtain⟨d,r,g⟩:=Zb.mp g
     obtain⟨x,K,r⟩:=Za.mp r
     subst g;cases x<;>first|(cases r;done)|skip
     exact DE.fld (B.xf q.1) (C u K) q.2 (zeb hj) r
    ·cases h
   ·unfold trIx at h;split at h
    ·rename_i q;obtain⟨i,L,h⟩:=Za.mp h
     obtain⟨P,A,h⟩:=Zb.mp h
     subst h;simp only[ev] at g;obtain⟨d,r,g⟩:=Za.mp g
     obtain⟨y,N,g⟩:=Za.mp g
     obtain⟨w1,h3,h4⟩:=zoc r
     obtain⟨d1,h5,h6⟩:=Zb.mp h3
     subst h6;subst h4;obtain⟨a1,a2,a3,a4⟩:=zak B L
     obtain⟨q1,q2,q3⟩:=q
     subst q1;cases d1<;>first|(cases g;done)|skip
     obtain⟨k,v,e⟩:=Zb.mp g
     subst e;exact DE.idx B.un (DF.var a1 (Loc.vis a2) a3 a4 (zev h5)) (C A N) q2 q3 v
    ·cases h
   ·-- a call
    rename_i x p e D pos;split at h
    ·rename_i f as hf;obtain⟨l,G,h⟩:=Zb.mp h
     subst h;simp only[ev] at g;obtain⟨M,r,g⟩:=Za.mp g
     exact fm_ok B hf (zew G) (I _ _ _ _ G r) g
    split at h
    ·rename_i f k hh;split at h
     ·rename_i v;obtain⟨l,G,h⟩:=Zb.mp h
      subst h;simp only[ev] at g;obtain⟨M,r,g⟩:=Za.mp g
      obtain⟨hf,g1,g2⟩:=zyz B hh
      have H:=zew G;rw[Qe,Zk] at H;exact DE.call (B.calls _ _ _ hf) g1 g2 (I _ _ _ _ G r) ((yna G r).trans v) g H.1 H.2
     ·cases h
    ·rename_i b hh;obtain⟨l,G,h⟩:=Zb.mp h
     subst h;simp only[ev] at g;obtain⟨M,r,g⟩:=Za.mp g
     obtain⟨e1,g1,g2⟩:=zza B hh
     have H:=zew G;rw[Qe,Zk] at H;subst e1;exact DE.blt (bi_ok B.calm B.un g) g1 (B.blt _ (yau b).2) (yoh b) (yau b).1 g2 (I _ _ _ _ G r) H.1 H.2
    ·cases h
    ·cases h
    ·cases h
   ·cases h
  ·cases D with
   |nil=>
    simp only[trEs] at h;cases h;simp only[evs] at g;cases g;exact DA.nil
   |cons e D=>
    simp only[trEs] at h;by_cases q:Bm e=true
    ·rw[if_pos q] at h;obtain⟨s,he,h⟩:=Za.mp h
     obtain⟨l',h3,z⟩:=Zb.mp h
     subst z;simp only[evs] at g;obtain⟨d,r,g⟩:=Za.mp g
     obtain⟨a8,a0,z⟩:=Zb.mp g
     subst z;exact DA.cons (C he r) (I _ _ _ _ h3 a0) q
    ·rw[if_neg q] at h;cases h
  ·cases o with
   |none=>
    simp only[trO] at h;cases h;simp only[evo] at g;cases g;exact DO.none
   |some e=>
    simp only[trO] at h;obtain⟨s,he,h⟩:=Zb.mp h
    subst h;simp only[evo] at g;obtain⟨i,U,g⟩:=Zb.mp g
    subst g;exact DO.some (iI he U)
  ·have h0:=h;simp only[trT] at h;unfold trT1 at h;split at h
   ·unfold trN at h;split at h
    ·obtain⟨J,u,h⟩:=Zb.mp h
     subst h;simp only[ev] at g;obtain⟨d,E,g⟩:=Za.mp g
     obtain⟨w,F,z⟩:=zoc E
     subst z;obtain⟨k1,v,r⟩:=Zb.mp F
     subst r;cases g;exact DT.not (O _ _ _ _ u v)
    ·cases h
   ·exact(Z _ _ _ _ _ _ h0 g).dt
   ·unfold trCp at h;split at h
    ·split at h
     case isFalse=>cases h
     rename_i V;obtain⟨o,ho,h⟩:=Za.mp h
     obtain⟨J,u,h⟩:=Za.mp h
     obtain⟨P,A,h⟩:=Zb.mp h
     subst h;simp only[ev] at g;obtain⟨d,E,g⟩:=Za.mp g
     obtain⟨w,F,z⟩:=zoc E
     subst z;obtain⟨x,K,a5⟩:=Za.mp F
     obtain⟨y,N,a6⟩:=Za.mp a5
     obtain⟨k1,v,r⟩:=Zb.mp a6
     subst r;cases g;exact DT.cmp (yif B.un ho v) (C u K) (C A N) V
    ·cases h
   ·split at h
    ·rename_i hp;exact DT.val (Y h g) (znr hp)
    ·cases h
def zgp(f:XE X c Γ)(n:Nat):(∀e g d w,trE n c e=some g->ev Γ g d=some w->DE X e d w)/\(∀h l d j,trEs n c h=some l->evs Γ l d=some j->DA X h d j) /\
  (∀o m d i,trO n c o=some m->evo Γ m d=some i->DO X o d i):=⟨(zia n X c f).1,(zia n X c f).2.1,(zia n X c f).2.2.1⟩
def zrr(h:XE X c Γ)(n:Nat):(∀e f g k,trT n c e=some f->((ev Γ f g).map W.d).bind zax=some k->DT X e g k) /\
  (∀i j p f g k,trT n c (.BoolOp i j p)=some f->((ev Γ f g).map W.d).bind zax=some k->DW X (.BoolOp i j p) g k):=⟨(zia n X c h).2.2.2.1,(zia n X c h).2.2.2.2⟩
end
open PySem L2 PyProof.Rows
def zdr:Expr->Bool
 |.ListComp _ _ _ _=>true
 |.SetComp _ _ _ _=>true
 |.DictComp _ _ _ _ _=>true
 |_=>false
def zfc{e t:Expr}{d:Nat}{env:Env}(h:zdr e=false):swapsWith e (some t) d env=pure false:=by
 cases e<;>first|rfl|(cases h;done)
def ydx{e:Expr}{d:List Expr}{k:Nat}{p:Pos}{env:Env}(h:yes e=false):swappedStores [.Tuple d k p] e env=pure none:=by
 cases e<;>first|(cases h;done)|rfl
def zya{e a k:Expr}{p:Pos}{env:Env}:swappedStores [.Subscript a k p] e env=pure none:=by
 cases e<;>rfl
def ylq{e t:Expr}{d:Nat}{env:Env}(h:zdr e=false):swapsWithSole [t] e d env=pure false:=by
 unfold swapsWithSole;exact zfc h
def swC(sc:Scope)(x:Str)(d pos:Pos)(scope:Scope):Bool:=decide (sc.names.lookup x=some NameKind.local) && (d.line == pos.line) && !(scope.names.any λ(n,k)=>n == x && (k == NameKind.local || k == NameKind.cell))
def ygt{x:Str}{g pos:Pos}{e:Expr}{h:List Comprehension}{scope:Scope}{d:Nat}{env:Env}(i:env.scope.kind=.function):swapsWith (.ListComp e h scope pos) (some (.Name x g)) d env=pure (swC env.scope x g pos scope):=by
 have f:env.blockKind=.function:=by unfold Env.blockKind;rw[i];rfl
 have j:(env.kindOf x == some NameKind.local)=decide (env.scope.names.lookup x=some NameKind.local):=by
  unfold Env.kindOf;by_cases q:env.scope.names.lookup x=some NameKind.local
  ·rw[q];rfl
  ·rw[decide_eq_false q];cases z:env.scope.names.lookup x with
   |none=>rfl
   |some k=>cases k<;>first|rfl|(exact absurd z q)
 show pure _=pure _;rw[f];unfold swC;rw[<-j];rfl
def yjj{x y:Str}{a b:Expr}{e f n o:Pos}{p g:Nat}{env:Env}(r:env.scope.kind=.function)(j:env.scope.names.lookup x=some .local)(l:env.scope.names.lookup y=some .local)(s:(e.line == f.line)=true)(d:x≠y)
 (t:Bm a=true)(u:Bm b=true)(v:([a,b].all (foldedForSure 8))=false)(w:([a,b].all (constantsAlone 8))=false):
  swappedStores [.Tuple [.Name x e,.Name y f] p n] (.Tuple [a,b] g o) env=pure (some [x,y]):=by
 have i:env.blockKind=.function:=by unfold Env.blockKind;rw[r];rfl
 have B:(env.kindOf x == some NameKind.local)=true:=by unfold Env.kindOf;rw[j];rfl
 have C:(env.kindOf y == some NameKind.local)=true:=by unfold Env.kindOf;rw[l];rfl
 have m:(y == x)=false:=by
  cases q:(y == x) with
  |false=>rfl
  |true=>exact absurd (eq_of_beq q).symm d
 have z:env.kindOf x=some NameKind.local:=j;have g:env.kindOf y=some NameKind.local:=l;have l1:f.line=e.line:=(eq_of_beq s).symm;have A:(Expr.Name x e).pos=e:=rfl;unfold swappedStores;simp only[Zv,Ko,i,v,w];simp[List.eraseDups,List.eraseDupsBy,List.eraseDupsBy.loop,m,d,W5 d]
 rw[if_neg (by
  rintro(h|h)
  ·revert t h;cases a<;>simp[Bm]
  ·revert u h;cases b<;>simp[Bm])]
 simp[Ja,z,g,l1,A,List.eraseDups,List.eraseDupsBy,List.eraseDupsBy.loop,m,d,W5 d]
open PySem L2 PyProof.Rows
def slots(c:TC):List Expr->Option (List Nat)
 |[]=>some []
 |.Name x _::d=>(slot c x).bind λi=>(slots c d).map λl=>i::l
 |_=>none
def trTg(c:TC):Expr->Option Tg
 |.Name x _=>(slot c x).map Tg.name
 |.Tuple d _ _=>(slots c d).map Tg.tup
 |_=>none
def zwc(n:Nat)(c:TC)(x:Str):Expr->Option S
 |.ListComp d f scope pos=>if c.sc.kind=.function then(slot c x).bind λi=>(trE n c (.ListComp d f scope pos)).map (S.asg i) else none
 |e=>if zdr e=false then(slot c x).bind λi=>(trE n c e).map (S.asg i) else none
def zwb(n:Nat)(c:TC):List Expr->Expr->Option S
 |[.Name x d,.Name y f],.Tuple [a,b] _ _=>
  if (d.line == f.line)=true/\x≠y/\Bm a=true/\Bm b=true/\([a,b].all (foldedForSure 8))=false/\([a,b].all (constantsAlone 8))=false/\c.sc.names.lookup x=some .local/\c.sc.names.lookup y=some .local then
   (slot c x).bind λi=>(slot c y).bind λj=>(trE n c a).bind λg=>(trE n c b).map λh=>S.par i j g h
  else none
 |ts,e=>if zdr e=false/\yes e=false then(slots c ts).bind λl=>(trE n c e).map (S.unp l) else none
def yjd(n:Nat)(c:TC)(e:Expr):Expr->Option S
 |.Name x _=>zwc n c x e
 |.Subscript (.Name x _) k _=>if zdr e=false/\zdz k=true then(slot c x).bind λi=>(trE n c k).bind λd=>(trE n c e).map (S.seti i d) else none
 |.Tuple f _ _=>zwb n c f e
 |_=>some .never
def yjb(n:Nat)(c:TC):Expr->Option S
 |.Name x _=>(slot c x).map S.retV
 |e=>(trE n c e).map S.ret
def vN:Expr->Option Str
 |.Name x _=>some x
 |_=>none
def vN_s{s:Expr}{x:Str}(h:vN s=some x):∃p,s = .Name x p:=by
 unfold vN at h;split at h
 ·cases h;exact⟨_,rfl⟩
 ·cases h
def vCl:Expr->Option (Expr×List Expr×Pos)
 |.Call f d [] p=>some (f,d,p)
 |_=>none
def vAt:Expr->Option (Expr×Str×Pos)
 |.Attribute a m p=>some (a,m,p)
 |_=>none
def xV(e:Expr):Option (Str×Str×Pos×List Expr×Pos):=(vCl e).bind λp=>(vAt p.1).bind λq=>(vN q.1).map λx=>(x,q.2.1,q.2.2,p.2)
def vCl_s{s:Expr}{e:Expr×List Expr×Pos}(h:vCl s=some e):s = .Call e.1 e.2.1 [] e.2.2:=by
 unfold vCl at h;split at h
 ·cases h;rfl
 ·cases h
def vAt_s{s:Expr}{e:Expr×Str×Pos}(h:vAt s=some e):s = .Attribute e.1 e.2.1 e.2.2:=by
 unfold vAt at h;split at h
 ·cases h;rfl
 ·cases h
def xV_s{e:Expr}{x m:Str}{j n:Pos}{o:List Expr}(h:xV e=some (x,m,j,o,n)):∃p,e = .Call (.Attribute (.Name x p) m j) o [] n:=by
 unfold xV at h;obtain⟨⟨f,l,z⟩,d,h⟩:=Za.mp h
 obtain⟨⟨a,r,q⟩,g,h⟩:=Za.mp h
 obtain⟨y,i,h⟩:=Zb.mp h
 cases h;obtain⟨p,i⟩:=vN_s i
 have d:=vCl_s d;have g:=vAt_s g;dsimp only at d g i;exact⟨p,by rw[d,g,i]⟩
def trX2(n:Nat)(c:TC)(x m:Str)(d f:Pos):List Expr->Option S
 |[e]=>if m=("append" : Str)/\(d.endLine == f.line)=true/\Bm e=true then(slot c x).bind λi=>(trE n c e).map (S.app i) else some .never
 |_=>some .never
def trX(n:Nat)(c:TC)(e:Expr):Option S:=match xV e with
 |some p=>trX2 n c p.1 p.2.1 p.2.2.1 p.2.2.2.2 p.2.2.2.1
 |none=>some .never
def trS1(n:Nat)(d:List Stmt->Option Ss)(c:TC):Stmt->Option S
 |.Assign [t] e _=>yjd n c e t
 |.Return (some e) _=>yjb n c e
 |.If t a b _=>(trT n c t).bind λh=>(d a).bind λl=>(d b).map λf=>S.iff h l f
 |.While t b [] _=>(trT n c t).bind λh=>(d b).map λf=>S.whl h f
 |.For j m b [] _=>(trTg c j).bind λg=>(trI1 (trE n c) c j m).bind λi=>(d b).map λf=>S.frr g i f
 |.Expr e _=>trX n c e
 |_=>some .never
mutual
def trS:Nat->TC->Stmt->Option S
 |0,_,_=>none
 |n+1,c,s=>trS1 n (trSs n c) c s
def trSs:Nat->TC->List Stmt->Option Ss
 |0,_,_=>none
 |n+1,c,[]=>some .nil
 |n+1,c,s::l=>(trS n c s).bind λd=>(trSs n c l).map λe=>.cons d e
end
section
variable{X:Cx}{c:TC}{Γ:Nat->∅}
def zqi(i:XC X c Γ){n:Nat}{e:Expr}{f:E}{g:Rho}{d:D}(h:trE n c e=some f)(j:(ev Γ f g).map W.d=some d):DF X e g d:=by
 obtain⟨w,l,m⟩:=zoc j
 subst m;exact((zgp i.toXE n).1 _ _ _ _ h l).df
def iI_ok(j:XC X c Γ){n:Nat}{e:Expr}{f:E}{g:Rho}{k:Int}(h:trE n c e=some f)(l:((ev Γ f g).map W.d).bind dInt=some k):DF X e g (.int k):=by
 obtain⟨d,i,m⟩:=Za.mp l
 rw[zds m] at i;exact zqi j h i
def zey{e d:RhoS}{i:Nat}{b:B}(h:setR e i b=some d):i<e.length/\d=e.set i (some b):=by
 unfold setR at h;by_cases q:i<e.length
 ·rw[if_pos q] at h;cases h;exact⟨q,rfl⟩
 ·rw[if_neg q] at h;cases h
theorem zrt(n:XC X c Γ):∀{o:List Expr}{r:List Nat}{f:List D}{s j:RhoS},slots c o=some r->zeu r f s=some j->DGs X o f s j/\o.all Bm=true/\f.length=o.length
 |[],r,f,s,j,h,m=>by
  simp only[slots] at h;cases h;cases f with
  |nil=>cases m;exact⟨DGs.nil,rfl,rfl⟩
  |cons d f=>cases m
 |t::o,r,f,s,j,h,m=>by
  unfold slots at h;split at h
  ·rename_i z;cases z
  ·rename_i x p F z;cases z;obtain⟨i,u,h⟩:=Za.mp h
   obtain⟨l,v,h⟩:=Zb.mp h
   subst h;cases f with
   |nil=>cases m
   |cons d f=>
    simp only[zeu] at m;obtain⟨w,A,m⟩:=Za.mp m
    obtain⟨q,e⟩:=zey A
    subst e;obtain⟨g,B,g3⟩:=zrt n v m
    obtain⟨C,E,G,H⟩:=zak n.toXE u
    refine⟨DGs.cons (DG.name (by rw[n.hN];exact n.nd) C E (.inl (n.fn _)) q) g rfl,by rw[Qe,B];rfl,by rw[Zv,Zv,g3]⟩
  ·cases h
def zvx(f:XC X c Γ){n:Expr}{t:Tg}(h:trTg c n=some t){d:D}{o m:RhoS}(j:zai t d o=some m):DG X n d o m:=by
 unfold trTg at h;split at h
 ·obtain⟨i,p,h⟩:=Zb.mp h
  subst h;simp only[zai] at j;obtain⟨q,e⟩:=zey j
  subst e;obtain⟨r,s,w,z⟩:=zak f.toXE p
  exact DG.name (by rw[f.hN];exact f.nd) r s (.inl (f.fn _)) q
 ·obtain⟨l,u,h⟩:=Zb.mp h
  subst h;cases d<;>first|(simp only[zai] at j;cases j;done)|skip
  ·simp only[zai] at j;obtain⟨g,v,g3⟩:=zrt f u j
   exact DG.tup f.calm g v g3
 ·cases h
def DI.listV{q:Expr}{i:Nat}{x:Str}{p:Pos}{l:List D}{g:RhoS}(s:X.N[i]? = some x)(t:Vis X.env.scope x)(h:(x == ("__debug__" : Str))=false)(j:(x == ("__classdict__" : Str))=false)(u:g[i]? = some (~~~.lst l)):DI X q (.Name x p) g l g:=λI J=>PI.mono (zpw (zat s t h j)) λK H R ⟨F,S,k⟩=>by
 obtain⟨v,w,z⟩:=S.env i _ u
 obtain⟨a,e,A,f,r⟩:=z.lst
 refine⟨v,w,a,A,⟨e,S.sub.seq f⟩,k _ H F (Same.refl _) S λi L m=>⟨λd h=>?_,λn=>⟨e,m.seq f,by rw[r.length];exact n⟩⟩⟩
 obtain⟨y,o,B⟩:=r.get h
 refine⟨⟨e,y,m.seq f,o⟩,λx C ⟨E,G⟩=>?_⟩
 have:=G e (m.seq f)
 rw[o] at this;cases this;exact .inl ⟨E,B⟩
def DI.tupV{q:Expr}{i:Nat}{x:Str}{p:Pos}{l:List D}{g:RhoS}(s:X.N[i]? = some x)(t:Vis X.env.scope x)(h:(x == ("__debug__" : Str))=false)(j:(x == ("__classdict__" : Str))=false)(u:g[i]? = some (~~~.tup l)):DI X q (.Name x p) g l g:=λI J=>PI.mono (zxn (zat s t h j)) λK H R ⟨F,S,k⟩=>by
 obtain⟨v,w,z⟩:=S.env i _ u
 obtain⟨a,e,A,f,r⟩:=z.tup
 refine⟨v,w,a,A,⟨e,Same.tup S.sub f⟩,k _ H F (Same.refl _) S λi L m=>⟨λd h=>?_,λn=>⟨e,Same.tup m f,by rw[r.length];exact n⟩⟩⟩
 obtain⟨y,o,B⟩:=r.get h
 refine⟨⟨e,y,Same.tup m f,o⟩,λx C ⟨E,G⟩=>?_⟩
 have:=G e (Same.tup m f)
 rw[o] at this;cases this;exact .inl ⟨E,B⟩
def zwm(i:XC X c Γ){n:Nat}{p e:Expr}{j:E}{m f:RhoS}{l:List D}(h:trE n c e=some j)(d:evI Γ (.seq j) m=some (l,f)):DI X p e m l f:=by
 simp only[evI] at d;obtain⟨w,o,d⟩:=Za.mp d
 split at d
 ·rename_i q g;cases d;exact DI.list ((zgp i.toXE n).1 _ _ _ _ h o) g
 ·rename_i q g;cases d;exact DI.tup ((zgp i.toXE n).1 _ _ _ _ h o) g
 ·cases d
def ygr(f:XC X c Γ){n:Nat}{t e:Expr}{i:It'}{u j:RhoS}{l:List D}(h:trI1 (trE n c) c t e=some i)(d:evI Γ i u=some (l,j)):DI X t e u l j/\zys e=false:=by
 unfold trI1 at h;split at h
 ·refine⟨?_,rfl⟩
  split at h
  ·rename_i q;obtain⟨v,g,h⟩:=Zb.mp h
   subst h;simp only[evI] at d;obtain⟨m,I,d⟩:=Za.mp d
   split at d
   ·rename_i z;cases d;obtain⟨o,p⟩:=zel f.toXE q.1
    subst p;exact DI.range1 o (f.blt _ (by decide +kernel)) (DA.cons (iI_ok f g I) DA.nil q.2) q.2 z.1 z.2
   ·cases d
  ·split at h
   ·rename_i q;obtain⟨v,g,h⟩:=Zb.mp h
    subst h;simp only[evI] at d;obtain⟨w,J,d⟩:=Za.mp d
    split at d
    ·rename_i K L;cases d;obtain⟨o,p⟩:=zel f.toXE q.1
     subst p;have M:DF X _ (view u) (.lst K):=zqi f g (by rw[J];exact congrArg some L);cases t<;>first|(cases q.2.2;done)|skip
     exact DI.enum o (f.blt _ (by decide +kernel)) (DA.cons M DA.nil q.2.1) q.2.1
    ·cases d
   ·split at h
    ·obtain⟨v,g,h⟩:=Zb.mp h
     subst h;simp only[evI] at d;cases d
    ·obtain⟨H,r,h⟩:=Zb.mp h
     subst h;exact zwm f r d
 ·refine⟨?_,rfl⟩
  split at h
  ·rename_i q;obtain⟨v,g,h⟩:=Za.mp h
   obtain⟨T,N,h⟩:=Zb.mp h
   subst h;simp only[evI] at d;obtain⟨l1,A,d⟩:=Za.mp d
   obtain⟨l2,B,d⟩:=Za.mp d
   obtain⟨U,O,P⟩:=Za.mp A
   obtain⟨V,Q,R⟩:=Za.mp B
   split at d
   ·rename_i z;cases d;obtain⟨o,p⟩:=zel f.toXE q.1
    subst p;cases t<;>first|(cases q.2.2.2;done)|skip
    exact DI.zg o (f.blt _ (by decide +kernel)) (DA.cons (zqi f g O) (DA.cons (zqi f N Q) DA.nil q.2.2.1) q.2.1) P R q.2.1 q.2.2.1 z
   ·cases d
  ·obtain⟨H,r,h⟩:=Zb.mp h
   subst h;exact zwm f r d
 ·obtain⟨i,S,h⟩:=Zb.mp h
  subst h;simp only[evI] at d;obtain⟨C,E,F,G⟩:=zak f.toXE S
  refine⟨?_,rfl⟩
  unfold seqB at d;split at d
  ·rename_i s;cases d;exact DI.listV C (Loc.vis E) F G s
  ·rename_i s;cases d;exact DI.tupV C (Loc.vis E) F G s
  ·rename_i s;cases d;exact DI.list (w:=.val (.lst l)) (DF.de (DF.var C (Loc.vis E) F G (by unfold view;rw[Zj,s];rfl))) rfl
  ·cases d
 ·split at h
  ·rename_i q;obtain⟨H,r,h⟩:=Zb.mp h
   subst h;exact⟨zwm f r d,q⟩
  ·cases h
def zhl{s:Stmt}{d:S}{e:RhoS}{o:Out}(h:some S.never=some d)(f:ex Γ d e=some o):DS X s e o:=by
 cases h;simp only[ex] at f;cases f
def you(d:XC X c Γ){n:Nat}{x:Str}{F p:Pos}{e:Expr}{G:S}{l:RhoS}{o:Out}(h:zwc n c x e=some G)(g:ex Γ G l=some o):DS X (.Assign [.Name x F] e p) l o:=by
 unfold zwc at h;split at h
 ·rename_i H I m pos;split at h
  case isFalse=>cases h
  rename_i J;obtain⟨i,A,h⟩:=Za.mp h
  obtain⟨K,j,h⟩:=Zb.mp h
  subst h;simp only[ex] at g;obtain⟨w,t,g⟩:=Za.mp g
  obtain⟨B,C,g⟩:=Zb.mp g
  subst g;obtain⟨q,r⟩:=zey C
  subst r;obtain⟨u,v,L,M⟩:=zak d.toXE A
  have z:i<l.length:=by
   have:(after w l).length=l.length:=by unfold after;split;rfl;unfold frz;rw[Zc]
   rw[this] at q;exact q
  cases s:swC X.env.scope x F pos m with
  |false=>exact DS.asg (by rw[d.hN];exact d.nd) u v (.inl (d.fn _)) (by rw[ygt d.kind,s]) z ((zgp d.toXE n).1 _ _ _ _ j t)
  |true=>
   cases n with
   |zero=>simp only[trE] at j;cases j
   |succ n=>
    simp only[trE] at j;change trLC _ _ _ _ _ _ I=_ at j
    unfold trLC at j;split at j
    ·obtain⟨items,N,f,fr,r,O,P,hS,Q,R,T⟩:=zko d.toXE (λh g=>zqi d h g) (λD E h=>(zia n D E h).1) (λD E h=>(zia n D E h).2.2.2.1) j t
     subst r;exact DS.asgComp (by rw[d.hN];exact d.nd) u v (.inl (d.fn _)) z (by rw[ygt d.kind,s]) d.calm O P hS Q R T
    ·cases j
 ·split at h
  ·rename_i U;obtain⟨i,A,h⟩:=Za.mp h
   obtain⟨K,j,h⟩:=Zb.mp h
   subst h;simp only[ex] at g;obtain⟨w,t,g⟩:=Za.mp g
   obtain⟨B,C,g⟩:=Zb.mp g
   subst g;obtain⟨q,r⟩:=zey C
   subst r;obtain⟨u,v,L,M⟩:=zak d.toXE A
   have z:i<l.length:=by
    have:(after w l).length=l.length:=by unfold after;split;rfl;unfold frz;rw[Zc]
    rw[this] at q;exact q
   exact DS.asg (by rw[d.hN];exact d.nd) u v (.inl (d.fn _)) (zfc U) z ((zgp d.toXE n).1 _ _ _ _ j t)
  ·cases h
def yot(f:XC X c Γ){n:Nat}{r:List Expr}{k:Nat}{tp g:Pos}{e:Expr}{s:S}{t:RhoS}{o:Out}(h:zwb n c r e=some s)(d:ex Γ s t=some o):DS X (.Assign [.Tuple r k tp] e g) t o:=by
 unfold zwb at h;split at h
 ·split at h
  ·rename_i q;obtain⟨A,B,u,v,C,D,E,F⟩:=q
   obtain⟨i,l,h⟩:=Za.mp h
   obtain⟨j,G,h⟩:=Za.mp h
   obtain⟨R,H,h⟩:=Za.mp h
   obtain⟨T,I,h⟩:=Zb.mp h
   subst h;simp only[ex] at d;obtain⟨x,J,d⟩:=Za.mp d
   obtain⟨y,K,d⟩:=Za.mp d
   split at d
   ·rename_i z;cases d;obtain⟨L,U,V,W⟩:=zak f.toXE l
    obtain⟨M,Y,Z,b4⟩:=zak f.toXE G
    have m:=E;have p:=F;rw[<-f.hsc] at m p;exact DS.par f.calm (by rw[f.hN];exact f.nd) L M z.2.2.1 m p (DA.cons (zqi f H J) (DA.cons (zqi f I K) DA.nil v) u) z.2.2.2.1 z.2.2.2.2 z.1 z.2.1 (yjj f.kind m p A B u v C D)
   ·cases d
  ·cases h
 ·split at h
  ·rename_i q;obtain⟨is,l,h⟩:=Za.mp h
   obtain⟨e',N,h⟩:=Zb.mp h
   subst h;simp only[ex] at d;obtain⟨w,O,d⟩:=Za.mp d
   obtain⟨P,Q,d⟩:=Zb.mp d
   subst d;exact DS.asgT ((zgp f.toXE n).1 _ _ _ _ N O) (zvx f (by show(slots c _).map Tg.tup=_;rw[l];rfl) Q) (by unfold swapsWithSole;exact zfc q.1) (ydx q.2) rfl
  ·cases h
def asg_ok(g:XC X c Γ){n:Nat}{t:Expr}{p:Pos}{e:Expr}{q:S}{r:RhoS}{o:Out}(h:yjd n c e t=some q)(f:ex Γ q r=some o):DS X (.Assign [t] e p) r o:=by
 unfold yjd at h;split at h
 ·exact you g h f
 ·split at h
  ·rename_i s;obtain⟨i,u,h⟩:=Za.mp h
   obtain⟨J,v,h⟩:=Za.mp h
   obtain⟨K,z,h⟩:=Zb.mp h
   subst h;simp only[ex] at f;obtain⟨w,A,f⟩:=Za.mp f
   obtain⟨j,B,f⟩:=Za.mp f
   obtain⟨C,D,E,F⟩:=zak g.toXE u
   split at f
   ·rename_i l d G _;split at f
    ·rename_i H;obtain⟨m,I,f⟩:=Zb.mp f
     subst f;exact DS.seti C (Loc.vis D) E F G ((zgp g.toXE n).1 _ _ _ _ z A) (iI_ok g v B) H I s.2 (ylq s.1) zya
    ·cases f
   ·cases f
  ·cases h
 ·exact yot g h f
 ·exact zhl h f
def ret_ok(j:XC X c Γ){n:Nat}{g:Pos}{e:Expr}{m:S}{p:RhoS}{o:Out}(h:yjb n c e=some m)(f:ex Γ m p=some o):DS X (.Return (some e) g) p o:=by
 unfold yjb at h;split at h
 ·obtain⟨i,u,h⟩:=Zb.mp h
  subst h;simp only[ex] at f;obtain⟨q,r,s,t⟩:=zak j.toXE u
  split at f
  ·rename_i l e;cases f;exact DS.retOwn q (Loc.vis r) s t e
  ·rename_i d e;cases f;refine DS.ret (DF.var q (Loc.vis r) s t ?_).de;unfold view;rw[Zj,e];rfl
  ·cases f
 ·obtain⟨A,v,h⟩:=Zb.mp h
  subst h;simp only[ex] at f;obtain⟨w,z,f⟩:=Zb.mp f
  subst f;exact DS.ret ((zgp j.toXE n).1 _ _ _ _ v z)
def x_ok(j:XC X c Γ){n:Nat}{g:Pos}{e:Expr}{q:S}{r:RhoS}{o:Out}(h:trX n c e=some q)(f:ex Γ q r=some o):DS X (.Expr e g) r o:=by
 unfold trX at h;split at h
 case h_2=>exact zhl h f
 rename_i p t;obtain⟨x,m,J,K,L⟩:=p
 obtain⟨M,rfl⟩:=xV_s t
 dsimp only at h;unfold trX2 at h;split at h
 ·split at h
  ·rename_i u;obtain⟨i,v,h⟩:=Za.mp h
   obtain⟨N,z,h⟩:=Zb.mp h
   subst h;simp only[ex] at f;obtain⟨w,A,f⟩:=Za.mp f
   obtain⟨B,C,D,E⟩:=zak j.toXE v
   split at f
   ·rename_i l d F;split at f
    ·rename_i s;cases f;obtain⟨G,H,I⟩:=u
     subst G;exact DS.app B (Loc.vis C) D E F ((zgp j.toXE n).1 _ _ _ _ z A) I s.1 s.2 H
    ·cases f
   ·cases f
  ·cases h;simp only[ex] at f;cases f
 ·exact zhl h f
def zvy(p:XC X c Γ):∀n,(∀s t j o,trS n c s=some t->ex Γ t j=some o->DS X s j o)/\(∀l z j o,trSs n c l=some z->exs Γ z j=some o->DSs X l j o):=by
 intro n;induction n with
 |zero=>exact⟨λe H j w h=>by(simp only[trS] at h;cases h),λe H j w h=>by(simp only[trSs] at h;cases h)⟩
 |succ n I=>
  obtain⟨D,q⟩:=I
  refine⟨λs t j o h f=>?_,λl z j o h f=>?_⟩
  ·simp only[trS] at h;unfold trS1 at h;split at h
   ·exact asg_ok p h f
   ·exact ret_ok p h f
   ·-- if
    obtain⟨J,u,h⟩:=Za.mp h
    obtain⟨S,K,h⟩:=Za.mp h
    obtain⟨E,r,h⟩:=Zb.mp h
    subst h;simp only[ex] at f;obtain⟨k,v,f⟩:=Za.mp f
    cases k with
    |true=>
     rw[if_pos rfl] at f;exact DS.ifT ((zrr p.toXE n).1 _ _ _ _ u v) (q _ _ _ _ K f)
    |false=>
     rw[if_neg Zw] at f;exact DS.ifF ((zrr p.toXE n).1 _ _ _ _ u v) (q _ _ _ _ r f)
   ·-- while
    obtain⟨J,u,h⟩:=Za.mp h
    obtain⟨E,r,h⟩:=Zb.mp h
    subst h;simp only[ex] at f;obtain⟨m,L⟩:=zkf f
    exact DS.while_ p.po (λj k v=>(zrr p.toXE n).1 _ _ _ _ u v) (λj o A=>q _ _ _ _ r A) L
   ·-- for
    obtain⟨g,M,h⟩:=Za.mp h
    obtain⟨i,N,h⟩:=Za.mp h
    obtain⟨E,r,h⟩:=Zb.mp h
    subst h;simp only[ex] at f;obtain⟨⟨l,B⟩,C,f⟩:=Za.mp f
    obtain⟨O,P⟩:=ygr p N C
    exact DS.for_ p.po p.calm O (λd j Q R=>zvx p M R) (λj o A=>q _ _ _ _ r A) f (ylr P)
   ·exact x_ok p h f
   ·exact zhl h f
  ·cases l with
   |nil=>
    simp only[trSs] at h;cases h;simp only[exs] at f;cases f;exact DSs.nil
   |cons s l=>
    simp only[trSs] at h;obtain⟨t,F,h⟩:=Za.mp h
    obtain⟨l2,C,h⟩:=Zb.mp h
    subst h;simp only[exs] at f;obtain⟨o1,G,f⟩:=Za.mp f
    cases o1 with
    |nx B=>exact DSs.next (D _ _ _ _ F G) (q _ _ _ _ C f)
    |rt w=>cases f;exact DSs.ret (D _ _ _ _ F G)
end
open PySem L2 PyProof.Rows
def GFn(P:Program)(w:World)(K:vE)(e:Str->Option Value)(d:Heap)(k:Nat)(x:Str)(n:Nat)(g:∅):Prop:=
 ∃(a:Addr) (f:FuncData) (ps:List Str),FnOk P w K e d CX0 k a f ps (spD K n g)/\e x=some (.ref a)/\PySem.W.keepIn K (.ref a)=true/\Binds K f ps []
def GFr(P:Program)(w:World)(K:vE)(e:Str->Option Value)(d:Heap)(k:Nat)(x:Str)(n:Nat)(g:∅):Prop:=
 ∃(a:Addr) (f:FuncData) (ps:List Str),FnOk P w K e d (CX1 P w) k a f ps (spR K n g)/\e x=some (.ref a)/\PySem.W.keepIn K (.ref a)=true/\Binds K f ps []
section
variable{P:Program}{w:World}{K:vE}{mg:Str->Option Value}{base:Heap}
theorem GFn.mono{j k:Nat}{x:Str}{n:Nat}{d:∅}(G:GFn P w K mg base j x n d)(h:j<=k):GFn P w K mg base k x n d:=by
 obtain⟨a,e,ps,F,r⟩:=G
 exact⟨a,e,ps,F.mono h,r⟩
theorem GFn.imp{k:Nat}{x:Str}{n:Nat}{e f:∅}(G:GFn P w K mg base k x n e)(h:∀d w,d.length=n->f d=some w->e d=some w):GFn P w K mg base k x n f:=by
 obtain⟨a,i,ps,F,r⟩:=G
 refine⟨a,i,ps,F.imp λq H Q E ⟨j,d,w,l,m,g,o,p⟩=>⟨j,d,w,l,m,g,h d w g o,p⟩,r⟩
def zwf{N:List Str}{d:List V}{i:Nat}{v:V}(h:d[i]? = some v):(L2.start N d)[i]? = some (some v):=by
 unfold L2.start;have e:i<d.length:=(Zo.mp h).1;rw[Yt (by rw[Zc];exact e),Zj,h];rfl
def zrs{F:Hp}{H:Hp}{f:List D}{h:List V}{N:List Str}(s:Same F H)(n:DenL K F f h):SR K H F F H (L2.start N h) (f.map (λd=>~~~d)++List.replicate (N.length-f.length) none):=by
 have t:h.length=f.length:=n.length;refine⟨s,Same.refl _,Same.refl _,λa o e=>.inl e,λi d e=>?_,λi l e=>?_,λi j l m a e=>?_,?_⟩
 ·by_cases g:i<f.length
  ·rw[Yt (by rw[Zc];exact g),Zj] at e;cases q:f[i]? with
   |none=>rw[q] at e;cases e
   |some p=>
    rw[q] at e;cases e;obtain⟨v,u,r⟩:=n.get q
    exact⟨v,zwf u,r⟩
  ·rw[Yg (by rw[Zc];omega)] at e;rw[Wl] at e;split at e<;>cases e
 ·by_cases g:i<f.length
  ·rw[Yt (by rw[Zc];exact g),Zj] at e;cases q:f[i]? with
   |none=>rw[q] at e;cases e
   |some p=>rw[q] at e;cases e
  ·rw[Yg (by rw[Zc];omega)] at e;rw[Wl] at e;split at e<;>cases e
 ·by_cases g:i<f.length
  ·rw[Yt (by rw[Zc];exact g),Zj] at e;cases q:f[i]? with
   |none=>rw[q] at e;cases e
   |some p=>rw[q] at e;cases e
  ·rw[Yg (by rw[Zc];omega)] at e;rw[Wl] at e;split at e<;>cases e
 ·unfold L2.start;rw[Yc,Yc,Zc,Zc,Yy,Yy,t]
structure Deps(P:Program)(w:World)(K:vE)(mg:Str->Option Value)(base:Heap)(k:Nat)(Γ:Nat->∅)(fns rzs:List (Str×Nat×Nat))(xs:Bool):Prop where
 fns:∀x f n,fns.lookup x=some (f,n)->GFn P w K mg base k x n (Γ f)
 rzs:∀x f n,rzs.lookup x=some (f,n)->GFr P w K mg base k x n (Γ f)
 xf:xs=true->BFacts K
 blt:∀x∈zdg,mg x=none
def zto{CX:CXT}{d:Str}{sc:Scope}{f:Addr}{N e:List Str}{k:Nat}{g i:List (Str×Nat×Nat)}{r:Bool}{Γ:Nat->∅}{j:Value}{A:Around}{outer:List Env}{s:Shared}{H:Hp}{E:XK}(S:FnScope N e sc)(l:Deps P w K mg base k Γ g i r)
 (m:Room k (A.deeper (envOfC d sc s.heap.objs.size f j))):XC (cxOf CX P w K mg base N d sc f j A outer s H E).nox ⟨N,sc,g,i,r⟩ Γ:=by
 refine⟨⟨rfl,rfl,S.nd,rfl,S.kind,λx f n h=>?_,l.xf,m.units,l.blt⟩,λ_=>rfl,PassesOwn.never,λx f n h=>?_,rfl,rfl,rfl⟩
 ·obtain⟨a,o,e,G,p,q,g3⟩:=l.fns x f n h
  exact⟨k,a,o,e,G,m,p,q,g3⟩
 ·obtain⟨a,o,e,G,p,q,g3⟩:=l.rzs x f n h
  exact⟨k,a,o,e,G,m,p,q,g3⟩
def zss{x h:Str}{l:Stmt}{f:Addr}{I:FuncData}{N p:List Str}{k m:Nat}{i j:List (Str×Nat×Nat)}{J:Bool}{Γ:Nat->∅}{d:Ss}(F:Fun K x h l f I)(S:FnScope N p (Bj l))
 (t:trSs m ⟨N,Bj l,i,j,J⟩ (Bl l)=some d)(O:Deps P w K mg base k Γ i j J):
  FnOk P w K mg base CX0 (k+1) f I p (spD K p.length (run Γ d N.length)):=by
 refine F.ok S (λR H Q E ⟨u,T,w,L,z,M,g,B⟩=>by rw[z.length];exact M) (λU A outer s H R Q E V ⟨u,T,wv,L,z,M,g,B⟩=>?_);have X:=zto (CX:=CX0) (E:=E) (outer:=outer) (H:=H) S O V;unfold run at g;obtain⟨o,Y,g⟩:=Za.mp g
 have hS:=(zvy X m).2 _ _ _ _ t Y;refine⟨_,hS H u,u,zrs L z,?_⟩
 cases o with
 |rt w'=>
  cases g;exact λv C G r q=>B v C G r.same r.base r.sub (λa o e=>r.new a o e) q
 |nx Z=>
  cases g;exact λa0 C G s' n=>B _ C G n.same n.base n.sub (λa o e=>n.new a o e) (RW.v Den.non_mk)
def gfn_of{x e:Str}{i:Stmt}{f:Addr}{l:FuncData}{N j:List Str}{k m n:Nat}{g h:List (Str×Nat×Nat)}{r:Bool}{Γ:Nat->∅}{d:Ss}{s:∅}(F:Fun K x e i f l)(S:FnScope N j (Bj i))(t:Binds K l j [])
 (u:mg x=some (.ref f))(o:trSs m ⟨N,Bj i,g,h,r⟩ (Bl i)=some d)(v:j.length=n)(z:Deps P w K mg base k Γ g h r)
 (p:∀q w,q.length=n->s q=some w->run Γ d N.length q=some w):GFn P w K mg base (k+1) x n s:=by
 subst v;exact GFn.imp ⟨f,l,j,zss F S o z,u,F.kp,t⟩ p
end
open PySem L2 PyProof.Rows
def At(K:vE)(x:Str)(e:Stmt):Prop:=∃(f:Addr) (i:Value) (j:Option Addr) (kV g l:Value) (m:Option Addr) (d n:Value) (h:Array (Option Value)),
 PySem.W.nsIn K mainGlobals x=some (some (.ref f))/\K.lookup f=some ⟨i,j,.func (PySem.W.fnOf x x (zbm e) (Bl e) (Bj e) .none kV g l m d n),h⟩/\PySem.W.codeIn K d x=true/\PySem.W.keepIn K (.ref f)=true
def at_mk{K:vE}{x:Str}{h:Stmt}{f:Addr}{i:Value}{j:Option Addr}{kV e m:Value}{n:Option Addr}{d ct:Value}{g:Array (Option Value)}(a:PySem.W.nsIn K mainGlobals x=some (some (.ref f)))
 (l:K.lookup f=some ⟨i,j,.func (PySem.W.fnOf x x (zbm h) (Bl h) (Bj h) .none kV e m n d ct),g⟩)(c:PySem.W.codeIn K d x=true)(k:PySem.W.keepIn K (.ref f)=true):At K x h:=⟨f,i,j,kV,e,m,n,d,ct,g,a,l,c,k⟩
def Bnd(x:Str)(d:Stmt)(h:List Str):Prop:=∀(kV e i:Value) (j:Option Addr) (f l:Value) (g:List Value),g.length=h.length->bindArgs (PySem.W.fnOf x x (zbm d) (Bl d) (Bj d) .none kV e i j f l) ⟨g,[]⟩=pure (h.zip g)
def Calls(P:Program)(w:World)(K:vE)(g:Str->Option Value)(d:Heap)(k:Nat)(Γ:Nat->∅)(e:List (Str×Nat×Nat)):Prop:=∀x f n,e.lookup x=some (f,n)->GFn P w K g d k x n (Γ f)
def CallsR(P:Program)(w:World)(K:vE)(g:Str->Option Value)(d:Heap)(k:Nat)(Γ:Nat->∅)(e:List (Str×Nat×Nat)):Prop:=∀x f n,e.lookup x=some (f,n)->GFr P w K g d k x n (Γ f)
section
variable{P:Program}{w:World}{K:vE}{mg:Str->Option Value}{base:Heap}{Γ:Nat->∅}
def Calls.nil{k:Nat}:Calls P w K mg base k Γ []:=λx f n h=>by cases h
def Calls.cons{j k f n:Nat}{x:Str}{l:List (Str×Nat×Nat)}(h:GFn P w K mg base j x n (Γ f))(d:j<=k)(r:Calls P w K mg base k Γ l):Calls P w K mg base k Γ ((x,f,n)::l):=λy g m e=>by
 rw[Qt] at e;cases q:(y == x) with
 |true=>
  rw[q] at e;cases e;have:=eq_of_beq q
  subst this;exact h.mono d
 |false=>rw[q] at e;exact r y g m e
def CallsR.nil{k:Nat}:CallsR P w K mg base k Γ []:=λx f n h=>by cases h
def zab{h:Heap}{x:Str}{e:Stmt}{N j:List Str}{k m n:Nat}{g i:List (Str×Nat×Nat)}{r:Bool}{d:Ss}{s:∅}(A:At K x e)(X:K.In h)(G:h.Ns mainGlobals mg)(S:FnScope N j (Bj e))(B:Bnd x e j)
 (o:trSs m ⟨N,Bj e,g,i,r⟩ (Bl e)=some d)(t:j.length=n)(u:Deps P w K mg base k Γ g i r)
 (p:∀q w,q.length=n->s q=some w->run Γ d N.length q=some w):GFn P w K mg base (k+1) x n s:=by
 obtain⟨f,H,I,kV,v,J,L,z,M,C,a,l,c,E⟩:=A
 have F:=zsp (st:=e) l c E;exact gfn_of F S (F.binds B) (Uc X G a) o t u p
def law_at{h:Heap}{x p:Str}{g:Stmt}{N:List Str}{k m:Nat}{t:Addr}{i j:List (Str×Nat×Nat)}{u:Bool}{d:Ss}(A:At K x g)(X:K.In h)(G:h.Ns mainGlobals mg)(n:mg x=some (.ref t))(S:FnScope N [p] (Bj g))(B:Bnd x g [p])
 (o:trSs m ⟨N,Bj g,i,j,u⟩ (Bl g)=some d)(C:∀base:Heap,K.In base->base.Ns mainGlobals mg->Deps P w K mg base k Γ i j u):
  ∃z:FuncData,(∀(s:Shared) (v:Value),BindsTo s z ⟨[v],[]⟩ [(p,v)])/\∀base:Heap,K.In base->base.Ns mainGlobals mg->FnOk P w K mg base CX0 (k+1) t z [p] (spD K 1 (run Γ d N.length)):=by
 obtain⟨f,O,Q,kV,q,D,E,r,H,I,a,l,c,J⟩:=A
 have e:=n.symm.trans (Uc X G a);cases e;have F:=zsp (st:=g) l c J;exact⟨_,λs v=>.of_eq (B kV q D E r H [v] rfl),λbase L M=>zss F S o (C base L M)⟩
def yen{n:Nat}{f:∅}(e:∀d:List Int,d.length<=n->f [.lst (d.map D.int)]=some (.val (.bl true)))(H:Hp)(a:Addr)(d:List Int)(g:d.length<=n)(hS:SqL K H a (d.map V.int)):
  spD K 1 f [.ref a] H (λv _=>v=.bl true) λ_ _ _=>False:=
 ⟨H,[.lst (d.map D.int)],.val (.bl true),Same.refl _,DenL.cons (Den.lst_mk hS (DenL.ints d)) DenL.nil,rfl,e d g,λv i h _ _ _ _ q=>(show Den K h (.bl true) v from q).bl⟩
def yfv{h:Heap}(X:K.In h)(G:h.Ns mainGlobals mg)(d:∀x∈zdg,PySem.W.nsIn K mainGlobals x=some none):∀x∈zdg,mg x=none:=λx e=>PySem.W.mg_none_of X G (d x e)
end
end DL
namespace DL
def bin2(f:D->D->Option W):Option D->Option D->Option W
 |some x,some y=>f x y
 |_,_=>none
def un1(f:D->Option W):Option D->Option W
 |some x=>f x
 |_=>none
def andO:Option Bool->Option W->Option W
 |some true,y=>y
 |some false,_=>some (.val (.bl false))
 |none,_=>none
def orO:Option Bool->Option W->Option W
 |some true,_=>some (.val (.bl true))
 |some false,y=>y
 |none,_=>none
def iffO{d:Type}:Option Bool->Option d->Option d->Option d
 |some true,x,_=>x
 |some false,_,y=>y
 |none,_,_=>none
def appL(f:∅):Option (List D)->Option W
 |some l=>f l
 |none=>none
def consO:Option D->Option (List D)->Option (List D)
 |some d,some l=>some (d::l)
 |_,_=>none
def slO:Option D->Option (Option Int)->Option (Option Int)->Option W
 |some x,some i,some j=>slD x i j
 |_,_,_=>none
def cmpW(c:Cm)(x y:D):Option W:=(cmpD c x y).map λk=>.val (.bl k)
def ixW(x y:D):Option W:=(ixD x y).map W.val
def negW:D->Option W
 |.int i=>some (.val (.int (-i)))
 |_=>none
def notW:Option Bool->Option W
 |some k=>some (.val (.bl (!k)))
 |none=>none
def tupW(d:List D):Option W:=if d.length<=PySem.sizeLine then some (.val (.tup d)) else none
def lstW(d:List D):Option W:=if d.length<=PySem.sizeLine then some (.new d) else none
def isxW(e:List PySem.Str)(d:D):Option W:=(isX e d).map λk=>.val (.bl k)
def isxW_n{d:List PySem.Str}:isxW d .non=some (.val (.bl false)):=rfl
def zipO(x y:Option D):Option (List D):=(x.bind sqD).bind λl=>(y.bind sqD).bind λm=>if l.length=m.length then some (zipD l m) else none
def fldO(j:Nat)(o:Option D):Option W:=(o.bind (fldD j)).map W.val
def fldO_s{a:PySem.Addr}{l:List D}{j:Nat}:fldO j (some (.obj a l))=l[j]?.map W.val:=rfl
section
variable{Γ:Nat->∅}{ρ:Rho}
def evd(Γ:Nat->∅)(e:E)(ρ:Rho):Option D:=(ev Γ e ρ).map W.d
def evb(Γ:Nat->∅)(e:E)(ρ:Rho):Option Bool:=(evd Γ e ρ).bind zax
def ev_var{i:Nat}:ev Γ (.var i) ρ=(varD ρ i).map W.val:=by simp only[ev]
def ev_int{i:Int}:ev Γ (.int i) ρ=some (.val (.int i)):=by simp only[ev]
def ev_bl{i:Bool}:ev Γ (.bl i) ρ=some (.val (.bl i)):=by simp only[ev]
def ev_non:ev Γ .non ρ=some (.val .non):=by simp only[ev]
def ev_bin{o:Op}{a b:E}:ev Γ (.bin o a b) ρ=bin2 (opW o) (evd Γ a ρ) (evd Γ b ρ):=by
 simp only[ev,evd];cases(ev Γ a ρ)<;>cases(ev Γ b ρ)<;>rfl
def ev_neg{a:E}:ev Γ (.neg a) ρ=un1 negW (evd Γ a ρ):=by
 simp only[ev,evd];cases(ev Γ a ρ) with
 |none=>rfl
 |some w=>simp only[Wi,Z9,un1];cases w.d<;>rfl
def ev_cmp{o:Cm}{a b:E}:ev Γ (.cmp o a b) ρ=bin2 (cmpW o) (evd Γ a ρ) (evd Γ b ρ):=by
 simp only[ev,evd];cases(ev Γ a ρ)<;>cases(ev Γ b ρ)<;>rfl
def ev_and{a b:E}:ev Γ (.and a b) ρ=andO (evb Γ a ρ) (ev Γ b ρ):=by
 simp only[ev,evd,evb];cases(Option.map W.d (ev Γ a ρ)).bind zax with
 |none=>rfl
 |some k=>cases k<;>rfl
def ev_or{a b:E}:ev Γ (.or a b) ρ=orO (evb Γ a ρ) (ev Γ b ρ):=by
 simp only[ev,evd,evb];cases(Option.map W.d (ev Γ a ρ)).bind zax with
 |none=>rfl
 |some k=>cases k<;>rfl
def ev_not{a:E}:ev Γ (.not a) ρ=notW (evb Γ a ρ):=by
 simp only[ev,evd,evb];cases(Option.map W.d (ev Γ a ρ)).bind zax<;>rfl
def ev_tup{l:Es}:ev Γ (.tup l) ρ=appL tupW (evs Γ l ρ):=by
 simp only[ev];cases(evs Γ l ρ)<;>rfl
def ev_lst{l:Es}:ev Γ (.lst l) ρ=appL lstW (evs Γ l ρ):=by
 simp only[ev];cases(evs Γ l ρ)<;>rfl
def ev_ix{a b:E}:ev Γ (.ix a b) ρ=bin2 ixW (evd Γ a ρ) (evd Γ b ρ):=by
 simp only[ev,evd];cases(ev Γ a ρ)<;>cases(ev Γ b ρ)<;>rfl
def ev_sl{a:E}{d e:EO}:ev Γ (.sl a d e) ρ=slO (evd Γ a ρ) (evo Γ d ρ) (evo Γ e ρ):=by
 simp only[ev,evd];cases(ev Γ a ρ)<;>cases(evo Γ d ρ)<;>cases(evo Γ e ρ)<;>rfl
def ynf{f:Nat}{l:Es}:ev Γ (.call f l) ρ=appL (Γ f) (evs Γ l ρ):=by
 simp only[ev];cases(evs Γ l ρ)<;>rfl
def ev_fld{a:E}{j:Nat}:ev Γ (.fld a j) ρ=fldO j (evd Γ a ρ):=by
 simp only[ev,evd,fldO]
def ev_ife{c a b:E}:ev Γ (.ife c a b) ρ=iffO (evb Γ c ρ) (ev Γ a ρ) (ev Γ b ρ):=by
 simp only[ev,evd,evb];cases(Option.map W.d (ev Γ c ρ)).bind zax with
 |none=>rfl
 |some k=>cases k<;>rfl
def ev_idx{a b:E}:ev Γ (.idx a b) ρ=bin2 idxW (evd Γ a ρ) (evd Γ b ρ):=by
 simp only[ev,evd];cases(ev Γ a ρ)<;>cases(ev Γ b ρ)<;>rfl
def ev_bi{f:Bi}{l:Es}:ev Γ (.bi f l) ρ=appL (biW f) (evs Γ l ρ):=by
 simp only[ev];cases(evs Γ l ρ)<;>rfl
def ev_isx{a:E}{d:List PySem.Str}:ev Γ (.isx a d) ρ=un1 (isxW d) (evd Γ a ρ):=by
 simp only[ev,evd];cases(ev Γ a ρ)<;>rfl
def zzm:evs Γ .nil ρ=some []:=by simp only[evs]
def zsu{e:E}{l:Es}:evs Γ (.cons e l) ρ=consO (evd Γ e ρ) (evs Γ l ρ):=by
 simp only[evs,evd];cases(ev Γ e ρ)<;>cases(evs Γ l ρ)<;>rfl
def ync:evo Γ .non ρ=some none:=by simp only[evo]
def ynb{e:E}:evo Γ (.som e) ρ=((evd Γ e ρ).bind dInt).map some:=by simp only[evo,evd]
end
def yjg(Γ:Nat->∅):Option Out->Ss->Option Out
 |some (.nx d),l=>exs Γ l d
 |some (.rt w),_=>some (.rt w)
 |none,_=>none
def asgO(d:RhoS)(i:Nat):Option W->Option Out
 |some w=>(setR (after w d) i w.b).map Out.nx
 |none=>none
def unpO(e:RhoS)(f:List Nat):Option W->Option Out
 |some w=>(zai (.tup f) w.d (after w e)).map Out.nx
 |none=>none
def parO(d:RhoS)(i j:Nat):Option D->Option D->Option Out
 |some x,some y=>if lf x=true/\lf y=true/\i≠j/\i<d.length/\j<d.length then some (.nx ((d.set i (~~~x)).set j (~~~y))) else none
 |_,_=>none
def retO:Option W->Option Out
 |some w=>some (.rt w)
 |none=>none
def ykn:Option (Option B)->Option Out
 |some (some (.ow l))=>some (.rt (.new l))
 |some (~~~d)=>some (.rt (.val d))
 |_=>none
def forO(d:D->RhoS->Option RhoS)(e:RhoS->Option Out):Option (List D×RhoS)->Option Out
 |some (l,f)=>forN d e l f
 |none=>none
def tryO(Γ:Nat->∅)(f g i j:Nat)(d:RhoS):Option (List D)->Option Out
 |some e=>match Γ g e with
  |some (.val (.exc z))=>if z∈zvj/\i≠j/\i<d.length then some (.nx (((frz d).set j none).set i (~~~.exc z))) else none
  |_=>(Γ f e).map λ_=>.nx (frz d)
 |none=>none
def outO:Option Out->Option W
 |some (.rt w)=>some w
 |some (.nx _)=>some (.val .non)
 |none=>none
def seqO(e:RhoS):Option W->Option (List D×RhoS)
 |some w=>match w.d with
  |.lst l=>some (l,after w e)
  |.tup l=>some (l,after w e)
  |_=>none
 |none=>none
def rng1O(d:RhoS):Option D->Option (List D×RhoS)
 |some (.int n)=>if -(2^62)<=n/\n<2^62 then some (zal 0 n.toNat,d) else none
 |_=>none
def enumO(d:RhoS):Option D->Option (List D×RhoS)
 |some (.lst l)=>some (zdk l,frz d)
 |_=>none
section
variable{Γ:Nat->∅}{ρ:RhoS}
def ymw:exs Γ .nil ρ=some (.nx ρ):=by simp only[exs]
def yfc{s:S}{l:Ss}:exs Γ (.cons s l) ρ=yjg Γ (ex Γ s ρ) l:=by
 simp only[exs];cases ex Γ s ρ with
 |none=>rfl
 |some o=>cases o<;>rfl
def ex_asg{i:Nat}{e:E}:ex Γ (.asg i e) ρ=asgO ρ i (ev Γ e (view ρ)):=by
 simp only[ex];cases ev Γ e (view ρ)<;>rfl
def ex_unp{d:List Nat}{e:E}:ex Γ (.unp d e) ρ=unpO ρ d (ev Γ e (view ρ)):=by
 simp only[ex];cases ev Γ e (view ρ)<;>rfl
def ex_par{i j:Nat}{a b:E}:ex Γ (.par i j a b) ρ=parO ρ i j (evd Γ a (view ρ)) (evd Γ b (view ρ)):=by
 simp only[ex,evd];cases ev Γ a (view ρ)<;>cases ev Γ b (view ρ)<;>rfl
def ex_ret{e:E}:ex Γ (.ret e) ρ=retO (ev Γ e (view ρ)):=by
 simp only[ex];cases ev Γ e (view ρ)<;>rfl
def ymz{i:Nat}:ex Γ (.retV i) ρ=ykn ρ[i]?:=by
 simp only[ex];cases ρ[i]? with
 |none=>rfl
 |some o=>cases o with
  |none=>rfl
  |some b=>cases b<;>rfl
def ex_iff{c:E}{a b:Ss}:ex Γ (.iff c a b) ρ=iffO (evb Γ c (view ρ)) (exs Γ a ρ) (exs Γ b ρ):=by
 simp only[ex,evB,evb,evd];cases(Option.map W.d (ev Γ c (view ρ))).bind zax with
 |none=>rfl
 |some k=>cases k<;>rfl
def ex_whl{c:E}{b:Ss}:ex Γ (.whl c b) ρ=zkg (evB Γ c) (exs Γ b) ρ:=by simp only[ex]
def ex_frr{t:Tg}{d:It'}{b:Ss}:ex Γ (.frr t d b) ρ=forO (zai t) (exs Γ b) (evI Γ d ρ):=by
 simp only[ex];cases evI Γ d ρ<;>rfl
def ymx{f g:Nat}{l:Es}{i j:Nat}:ex Γ (.tryC f g l i j) ρ=tryO Γ f g i j ρ (evs Γ l (view ρ)):=by
 simp only[ex];cases evs Γ l (view ρ) with
 |none=>rfl
 |some h=>
  rw[Z9];unfold tryO;cases e:Γ g h with
  |none=>simp only[e]
  |some w=>cases w with
   |new l=>simp only[e]
   |val d=>cases d<;>simp only[e]
def evB_eq{c:E}:evB Γ c ρ=evb Γ c (view ρ):=rfl
def ynl{e:E}:evI Γ (.seq e) ρ=seqO ρ (ev Γ e (view ρ)):=by
 simp only[evI];cases ev Γ e (view ρ)<;>rfl
def yfd{i:Nat}:evI Γ (.seqV i) ρ=seqB ρ ρ[i]?:=by simp only[evI]
def seqB_l{l:List D}:seqB ρ (some (~~~.lst l))=some (l,ρ):=rfl
def seqB_t{l:List D}:seqB ρ (some (~~~.tup l))=some (l,ρ):=rfl
def seqB_o{l:List D}:seqB ρ (some (some (.ow l)))=some (l,frz ρ):=rfl
def zuu{e:E}:evI Γ (.range1 e) ρ=rng1O ρ (evd Γ e (view ρ)):=by
 simp only[evI,evd];cases ev Γ e (view ρ) with
 |none=>rfl
 |some w=>simp only[Wi,Z9];cases w.d<;>rfl
def ynk{a b:E}:evI Γ (.zip a b) ρ=(zipO (evd Γ a (view ρ)) (evd Γ b (view ρ))).map λl=>(l,frz ρ):=by
 simp only[evI,evd,zipO];cases((ev Γ a (view ρ)).map W.d).bind sqD with
 |none=>rfl
 |some l=>
  cases((ev Γ b (view ρ)).map W.d).bind sqD with
  |none=>rfl
  |some m=>
   simp only[Z9];by_cases e:l.length=m.length
   ·rw[if_pos e,if_pos e];rfl
   ·rw[if_neg e,if_neg e];rfl
def yfe{e:E}:evI Γ (.enum e) ρ=enumO ρ (evd Γ e (view ρ)):=by
 simp only[evI,evd];cases ev Γ e (view ρ) with
 |none=>rfl
 |some w=>simp only[Wi,Z9];cases w.d<;>rfl
def run_eq{b:Ss}{n:Nat}{e:List D}:run Γ b n e=outO (exs Γ b (e.map (λd=>~~~d)++List.replicate (n-e.length) none)):=by
 unfold run;cases exs Γ b (e.map (λd=>~~~d)++List.replicate (n-e.length) none) with
 |none=>rfl
 |some o=>cases o<;>rfl
end
section
variable{Γ:Nat->∅}{ρ:RhoS}
def bin2_s{f:D->D->Option W}{x y:D}:bin2 f (some x) (some y)=f x y:=rfl
def un1_s{f:D->Option W}{x:D}:un1 f (some x)=f x:=rfl
def andO_t{y:Option W}:andO (some true) y=y:=rfl
def andO_f{y:Option W}:andO (some false) y=some (.val (.bl false)):=rfl
def orO_t{y:Option W}:orO (some true) y=some (.val (.bl true)):=rfl
def orO_f{y:Option W}:orO (some false) y=y:=rfl
def iffO_t{d:Type}{x y:Option d}:iffO (some true) x y=x:=rfl
def iffO_f{d:Type}{x y:Option d}:iffO (some false) x y=y:=rfl
def appL_s{f:∅}{l:List D}:appL f (some l)=f l:=rfl
def ynu{d:D}{l:List D}:consO (some d) (some l)=some (d::l):=rfl
def slO_s{x:D}{i j:Option Int}:slO (some x) (some i) (some j)=slD x i j:=rfl
def notW_s{k:Bool}:notW (some k)=some (.val (.bl (!k))):=rfl
def ycj{l:Ss}:yjg Γ (some (.nx ρ)) l=exs Γ l ρ:=rfl
def yci{l:Ss}{w:W}:yjg Γ (some (.rt w)) l=some (.rt w):=rfl
def asgO_s{i:Nat}{w:W}:asgO ρ i (some w)=(setR (after w ρ) i w.b).map Out.nx:=rfl
def unpO_s{e:List Nat}{w:W}:unpO ρ e (some w)=(zai (.tup e) w.d (after w ρ)).map Out.nx:=rfl
def parO_s{i j:Nat}{x y:D}:parO ρ i j (some x) (some y)=if lf x=true/\lf y=true/\i≠j/\i<ρ.length/\j<ρ.length then some (.nx ((ρ.set i (~~~x)).set j (~~~y))) else none:=rfl
def retO_s{w:W}:retO (some w)=some (.rt w):=rfl
def ykm{l:List D}:ykn (some (some (.ow l)))=some (.rt (.new l)):=rfl
def ykl{d:D}:ykn (some (~~~d))=some (.rt (.val d)):=rfl
def forO_s{d:D->RhoS->Option RhoS}{e:RhoS->Option Out}{l:List D}:forO d e (some (l,ρ))=forN d e l ρ:=rfl
def ylb{w:W}:outO (some (.rt w))=some w:=rfl
def ylc:outO (some (.nx ρ))=some (.val .non):=rfl
def yka{l:List D}:seqO ρ (some (.new l))=some (l,after (.new l) ρ):=rfl
def yjz{l:List D}:seqO ρ (some (.val (.lst l)))=some (l,after (.val (.lst l)) ρ):=rfl
def yjy{l:List D}:seqO ρ (some (.val (.tup l)))=some (l,after (.val (.tup l)) ρ):=rfl
def ynn{l:List D}:enumO ρ (some (.lst l))=some (zdk l,frz ρ):=rfl
def ykg{n:Int}:rng1O ρ (some (.int n))=if -(2^62)<=n/\n<2^62 then some (zal 0 n.toNat,ρ) else none:=rfl
def varD_0{o:Option D}{r:Rho}:varD (o::r) 0=o:=by cases o<;>rfl
def varD_s{o:Option D}{r:Rho}{i:Nat}:varD (o::r) (i+1)=varD r i:=rfl
def ybq:view []=[]:=rfl
def zvo{o:Option B}{r:RhoS}:view (o::r)=o.map B.d::view r:=rfl
def ypd{i:Int}:after (.val (.int i)) ρ=ρ:=rfl
def ype{i:Bool}:after (.val (.bl i)) ρ=ρ:=rfl
def ypc:after (.val .non) ρ=ρ:=rfl
def Wd_v{d:D}:(W.val d).d=d:=rfl
def Wd_n{l:List D}:(W.new l).d=.lst l:=rfl
def Wb_v{d:D}:(W.val d).b=.sh d:=rfl
def Wb_n{l:List D}:(W.new l).b=.ow l:=rfl
def Bd_s{d:D}:(B.sh d).d=d:=rfl
def Bd_o{l:List D}:(B.ow l).d=.lst l:=rfl
def ynt{k:Bool}:zax (.bl k)=some k:=rfl
def zzy{k:Int}:dInt (.int k)=some k:=rfl
def ygx{o:Option B}{b:B}:setR (o::ρ) 0 b=some (some b::ρ):=rfl
def ygw{o:Option B}{i:Nat}{b:B}:setR (o::ρ) (i+1) b=(setR ρ i b).map (o :: ·):=by
 unfold setR;by_cases h:i<ρ.length
 ·rw[if_pos h,if_pos (by rw[Zv];omega)];rfl
 ·rw[if_neg h,if_neg (by rw[Zv];omega)];rfl
def op_add{a b:Int}:opW .add (.int a) (.int b)=some (.val (.int (a+b))):=rfl
def op_sub{a b:Int}:opW .sub (.int a) (.int b)=some (.val (.int (a-b))):=rfl
def op_mul{a b:Int}:opW .mul (.int a) (.int b)=if Bw a b=true then some (.val (.int (a*b))) else none:=rfl
def op_fdiv{a b:Int}:opW .fdiv (.int a) (.int b)=if zbt b=true then some (.val (.int (a.fdiv b))) else none:=rfl
def op_mod{a b:Int}:opW .mod (.int a) (.int b)=if b=0 then none else some (.val (.int (a.fmod b))):=rfl
def op_pow{a b:Int}:opW .pow (.int a) (.int b)=if zfy a b=true then some (.val (.int (a^b.toNat))) else none:=rfl
end
def sl0:(0<=PySem.sizeLine)=True:=eq_true vA
def sl1:(1<=PySem.sizeLine)=True:=eq_true vA
def sl2:(2<=PySem.sizeLine)=True:=eq_true vA
def sl3:(3<=PySem.sizeLine)=True:=eq_true vA
def sl4:(4<=PySem.sizeLine)=True:=eq_true vA
def sl5:(5<=PySem.sizeLine)=True:=eq_true vA
def sl6:(6<=PySem.sizeLine)=True:=eq_true vA
def sl7:(7<=PySem.sizeLine)=True:=eq_true vA
def sl8:(8<=PySem.sizeLine)=True:=eq_true vA
def sl9:(9<=PySem.sizeLine)=True:=eq_true vA
def at1_0{a:D}:L2.atI [a] 0=some a:=rfl
def at2_0{a b:D}:L2.atI [a,b] 0=some a:=rfl
def at2_1{a b:D}:L2.atI [a,b] 1=some b:=rfl
def at3_0{a b c:D}:L2.atI [a,b,c] 0=some a:=rfl
def at3_1{a b c:D}:L2.atI [a,b,c] 1=some b:=rfl
def at3_2{a b c:D}:L2.atI [a,b,c] 2=some c:=rfl
def at4_0{a b c d:D}:L2.atI [a,b,c,d] 0=some a:=rfl
def at4_1{a b c d:D}:L2.atI [a,b,c,d] 1=some b:=rfl
def at4_2{a b c d:D}:L2.atI [a,b,c,d] 2=some c:=rfl
def at4_3{a b c d:D}:L2.atI [a,b,c,d] 3=some d:=rfl
def at5_0{a b c d e:D}:L2.atI [a,b,c,d,e] 0=some a:=rfl
def at5_1{a b c d e:D}:L2.atI [a,b,c,d,e] 1=some b:=rfl
def at5_2{a b c d e:D}:L2.atI [a,b,c,d,e] 2=some c:=rfl
def at5_3{a b c d e:D}:L2.atI [a,b,c,d,e] 3=some d:=rfl
def at5_4{a b c d e:D}:L2.atI [a,b,c,d,e] 4=some e:=rfl
def at6_0{a b c d e f:D}:L2.atI [a,b,c,d,e,f] 0=some a:=rfl
def at6_1{a b c d e f:D}:L2.atI [a,b,c,d,e,f] 1=some b:=rfl
def at6_2{a b c d e f:D}:L2.atI [a,b,c,d,e,f] 2=some c:=rfl
def at6_3{a b c d e f:D}:L2.atI [a,b,c,d,e,f] 3=some d:=rfl
def at6_4{a b c d e f:D}:L2.atI [a,b,c,d,e,f] 4=some e:=rfl
def at6_5{a b c d e f:D}:L2.atI [a,b,c,d,e,f] 5=some f:=rfl
def zap{a b:Int}(h:0<b):a.fmod b=a%b:=Q6 _ vB
def zmd{a b:Int}(h:0<b):a.fdiv b=a/b:=Vo _ vB
def zes{b:Int}(d:0<b)(e:b<1000000000000000000000000000000000000000000000000000000000000000000000000000000000000000000000000000000000000000000000000000000000000000000000000000000):zbt b=true:=by
 unfold zbt;rw[Zk];refine⟨decide_eq_true vB,decide_eq_true ?_⟩
 have:(1000000000000000000000000000000000000000000000000000000000000000000000000000000000000000000000000000000000000000000000000000000000000000000000000000000:Nat)<=2^9000:=by decide +kernel
 omega
def zac{a b:Int}(d : -1000000000000000000000000000000000000000000000000000000000000000000000000000000000000000000000000000000000000000000000000000000000000000000000000000000<a)(e:a<1000000000000000000000000000000000000000000000000000000000000000000000000000000000000000000000000000000000000000000000000000000000000000000000000000000)(f : -1000000000000000000000000000000000000000000000000000000000000000000000000000000000000000000000000000000000000000000000000000000000000000000000000000000<b)(g:b<1000000000000000000000000000000000000000000000000000000000000000000000000000000000000000000000000000000000000000000000000000000000000000000000000000000):Bw a b=true:=by
 unfold Bw;rw[Zk];have:(1000000000000000000000000000000000000000000000000000000000000000000000000000000000000000000000000000000000000000000000000000000000000000000000000000000:Nat)<=2^16000:=by decide +kernel
 exact⟨decide_eq_true vB,decide_eq_true vB⟩
def op_p4:opW .pow (.int 10) (.int 4)=some (.val (.int 10000)):=by
 have h:zfy 10 4=true:=by decide +kernel
 have e:((10:Int)^Int.toNat 4)=10000:=by decide +kernel
 rw[op_pow,if_pos h,e]
def op_p5:opW .pow (.int 10) (.int 5)=some (.val (.int 100000)):=by
 have h:zfy 10 5=true:=by decide +kernel
 have e:((10:Int)^Int.toNat 5)=100000:=by decide +kernel
 rw[op_pow,if_pos h,e]
def op_p6:opW .pow (.int 10) (.int 6)=some (.val (.int 1000000)):=by
 have h:zfy 10 6=true:=by decide +kernel
 have e:((10:Int)^Int.toNat 6)=1000000:=by decide +kernel
 rw[op_pow,if_pos h,e]
def op_p9:opW .pow (.int 10) (.int 9)=some (.val (.int 1000000000)):=by
 have h:zfy 10 9=true:=by decide +kernel
 have e:((10:Int)^Int.toNat 9)=1000000000:=by decide +kernel
 rw[op_pow,if_pos h,e]
def op_p10:opW .pow (.int 10) (.int 10)=some (.val (.int 10000000000)):=by
 have h:zfy 10 10=true:=by decide +kernel
 have e:((10:Int)^Int.toNat 10)=10000000000:=by decide +kernel
 rw[op_pow,if_pos h,e]
def op_p18:opW .pow (.int 10) (.int 18)=some (.val (.int 1000000000000000000)):=by
 have h:zfy 10 18=true:=by decide +kernel
 have e:((10:Int)^Int.toNat 18)=1000000000000000000:=by decide +kernel
 rw[op_pow,if_pos h,e]
def op_p30:opW .pow (.int 10) (.int 30)=some (.val (.int 1000000000000000000000000000000)):=by
 have h:zfy 10 30=true:=by decide +kernel
 have e:((10:Int)^Int.toNat 30)=1000000000000000000000000000000:=by decide +kernel
 rw[op_pow,if_pos h,e]
def op_p60:opW .pow (.int 10) (.int 60)=some (.val (.int 1000000000000000000000000000000000000000000000000000000000000)):=by
 have h:zfy 10 60=true:=by decide +kernel
 have e:((10:Int)^Int.toNat 60)=1000000000000000000000000000000000000000000000000000000000000:=by decide +kernel
 rw[op_pow,if_pos h,e]
def op_p64:opW .pow (.int 10) (.int 64)=some (.val (.int 10000000000000000000000000000000000000000000000000000000000000000)):=by
 have h:zfy 10 64=true:=by decide +kernel
 have e:((10:Int)^Int.toNat 64)=10000000000000000000000000000000000000000000000000000000000000000:=by decide +kernel
 rw[op_pow,if_pos h,e]
def cs0:((0:Nat):Int)=0:=rfl
def cs1:((1:Nat):Int)=1:=rfl
def cs2:((2:Nat):Int)=2:=rfl
def cs3:((3:Nat):Int)=3:=rfl
def cs4:((4:Nat):Int)=4:=rfl
def cs5:((5:Nat):Int)=5:=rfl
def cs6:((6:Nat):Int)=6:=rfl
def cs7:((7:Nat):Int)=7:=rfl
def cs8:((8:Nat):Int)=8:=rfl
def cs9:((9:Nat):Int)=9:=rfl
def cs10:((10:Nat):Int)=10:=rfl
def cs11:((11:Nat):Int)=11:=rfl
def cs12:((12:Nat):Int)=12:=rfl
def ixD_t{l:List D}{i:Int}:ixD (.tup l) (.int i)=L2.atI l i:=rfl
def ixD_l{l:List D}{i:Int}:ixD (.lst l) (.int i)=L2.atI l i:=rfl
def slD_l{l:List D}{i j:Option Int}:slD (.lst l) i j=some (.new (cutD l i j)):=rfl
def yga{i:Nat}{d:D}{e:RhoS}:zai (.name i) d e=setR e i (.sh d):=rfl
def zti{d:List Nat}{e:List D}{f:RhoS}:zai (.tup d) (.tup e) f=zeu d e f:=rfl
def appO(e:RhoS)(i:Nat):Option (Option B)->Option W->Option Out
 |some (some (.ow l)),some (.val d)=>if lf d=true/\l.length<PySem.sizeLine then some (.nx (e.set i (some (.ow (l++[d]))))) else none
 |_,_=>none
def zuf(e:RhoS)(i:Nat):Option (Option B)->Option W->Option D->Option Out
 |some (some (.ow l)),some (.val d),some (.int j)=>if lf d=true then(L2.ixN l.length j).map λn=>.nx (e.set i (some (.ow (l.set n d)))) else none
 |_,_,_=>none
section
variable{Γ:Nat->∅}{ρ:RhoS}
def ex_app{i:Nat}{e:E}:ex Γ (.app i e) ρ=appO ρ i ρ[i]? (ev Γ e (view ρ)):=by
 simp only[ex];cases ev Γ e (view ρ) with
 |none=>
  rw[Uw];unfold appO;cases ρ[i]? with
  |none=>rfl
  |some o=>cases o with
   |none=>rfl
   |some b=>cases b<;>rfl
 |some w=>
  rw[Z9];unfold appO;cases ρ[i]? with
  |none=>rfl
  |some o=>cases o with
   |none=>rfl
   |some b=>cases b<;>cases w<;>rfl
def ymy{i:Nat}{k e:E}:ex Γ (.seti i k e) ρ=zuf ρ i ρ[i]? (ev Γ e (view ρ)) (evd Γ k (view ρ)):=by
 simp only[ex,evd];cases ev Γ e (view ρ) with
 |none=>
  rw[Uw];unfold zuf;cases ρ[i]? with
  |none=>rfl
  |some o=>cases o with
   |none=>rfl
   |some b=>cases b<;>rfl
 |some w=>
  rw[Z9];cases ev Γ k (view ρ) with
  |none=>
   unfold zuf;cases ρ[i]? with
   |none=>rfl
   |some o=>cases o with
    |none=>rfl
    |some b=>cases b<;>cases w<;>rfl
  |some u=>
   simp only[Wi,Z9];cases u.d with
   |int j=>
    unfold zuf;cases ρ[i]? with
    |none=>rfl
    |some o=>cases o with
     |none=>rfl
     |some b=>cases b<;>cases w<;>rfl
   |_=>
    unfold zuf;cases ρ[i]? with
    |none=>rfl
    |some o=>cases o with
     |none=>rfl
     |some b=>cases b<;>cases w<;>rfl
def appO_s{i:Nat}{l:List D}{d:D}:appO ρ i (some (some (.ow l))) (some (.val d))=if lf d=true/\l.length<PySem.sizeLine then some (.nx (ρ.set i (some (.ow (l++[d]))))) else none:=rfl
def yju{i:Nat}{l:List D}{d:D}{j:Int}:zuf ρ i (some (some (.ow l))) (some (.val d)) (some (.int j))=if lf d=true then(L2.ixN l.length j).map λn=>.nx (ρ.set i (some (.ow (l.set n d)))) else none:=rfl
end
section
variable{Γ:Nat->∅}{ρ:Rho}
def ev_fm{f:Fm}{l:Es}:ev Γ (.fm f l) ρ=appL (fmW f) (evs Γ l ρ):=by
 simp only[ev];cases(evs Γ l ρ)<;>rfl
def zne(Γ:Nat->∅)(f:E)(t:Tg)(g:Nat)(fr:List Nat)(c:EO)(ρ:Rho)(d:D):Option (Option D):=
 (zbw t d (blkR g fr ρ)).bind λe=>(evc Γ c e).bind λk=>if k=true then((ev Γ f e).map W.d).map some else some none
def zje{e:E}{t:Tg}{g:It'}{f:Nat}{fr:List Nat}{c:EO}:ev Γ (.comp e t g f fr c) ρ=(evW Γ g ρ).bind λd=>if d.length<=PySem.sizeLine/\tgOk f t=true then(zca (zne Γ e t f fr c ρ) d).map W.new else none:=by
 simp only[ev];rfl
def ynh{e:E}:evW Γ (.seq e) ρ=(evd Γ e ρ).bind seqD:=by simp only[evW,evd]
def zsv{i:Nat}:evW Γ (.seqV i) ρ=(varD ρ i).bind seqD:=by simp only[evW]
def evW_range1{a:E}:evW Γ (.range1 a) ρ=((evd Γ a ρ).bind dInt).bind λn=>if -(2^62)<=n/\n<2^62 then some (zal 0 n.toNat) else none:=by simp only[evW,evd]
def yni{e:E}:evW Γ (.rev e) ρ=((evd Γ e ρ).bind lstD).map List.reverse:=by simp only[evW,evd]
def yng{a b:E}:evW Γ (.zip a b) ρ=zipO (evd Γ a ρ) (evd Γ b ρ):=by
 simp only[evW,evd,zipO]
def yne:evc Γ .non ρ=some true:=by simp only[evc]
def ynd{e:E}:evc Γ (.som e) ρ=evb Γ e ρ:=by simp only[evc,evb,evd]
theorem zfk{d:Type}{f:D->Option (Option D)}{g:d->D}{h:d->D}:∀{l:List d},(∀x∈l,f (g x)=some (some (h x)))->zca f (l.map g)=some (l.map h)
 |[],_=>rfl
 |x::l,e=>by
  rw[Zx,Zx];unfold zca;rw[e x (.head _)];simp only
  rw[zfk λy i=>e y (.tail _ i)];rfl
def zde{d:Type}{elt:E}{t:Tg}{it:It'}{nt:Nat}{fr:List Nat}{c:EO}{l:List d}{g h:d->D}(e:evW Γ it ρ=some (l.map g))(f:l.length<=PySem.sizeLine)(i:tgOk nt t=true)(j:∀x∈l,zne Γ elt t nt fr c ρ (g x)=some (some (h x))):
  ev Γ (.comp elt t it nt fr c) ρ=some (.new (l.map h)):=by
 rw[zje,e,Z9,if_pos ⟨by rw[Zc];exact f,i⟩,zfk j];rfl
end
def yat{i:Nat}{d:D}{e:Rho}:zbw (.name i) d e=setE e i d:=rfl
def yas{d:List Nat}{e:List D}{f:Rho}:zbw (.tup d) (.tup e) f=zck d e f:=rfl
def setE_0{o:Option D}{d:D}{e:Rho}:setE (o::e) 0 d=some (some d::e):=rfl
def setE_s{o:Option D}{i:Nat}{d:D}{e:Rho}:setE (o::e) (i+1) d=(setE e i d).map (o :: ·):=by
 unfold setE;by_cases h:i<e.length
 ·rw[if_pos h,if_pos (by rw[Zv];omega)];rfl
 ·rw[if_neg h,if_neg (by rw[Zv];omega)];rfl
end DL
namespace DL
section
def Bk{d e:Type}{o g:Option d}{f i:d->Option e}{y:e}(j:∀x,o=some x->g=some x)(l:∀x y,f x=some y->i x=some y)(h:o.bind f=some y):g.bind i=some y:=by
 obtain⟨x,m,n⟩:=Za.mp h
 rw[j x m,Z9];exact l x y n
def Bv{d e:Type}{o g:Option d}{f:d->e}{y:e}(i:∀x,o=some x->g=some x)(h:o.map f=some y):g.map f=some y:=by
 obtain⟨x,j,l⟩:=Zb.mp h
 rw[i x j,Wi,l]
def zkn{d:Type}{c:Prop} [Decidable c]{a b e f:Option d}{y:d}(g:a=some y->e=some y)(i:b=some y->f=some y)(h:(if c then a else b)=some y):(if c then e else f)=some y:=by
 by_cases q:c
 ·rw[if_pos q] at h |-;exact g h
 ·rw[if_neg q] at h |-;exact i h
theorem zmj{f g:D->Option (Option D)}(h:∀d y,f d=some y->g d=some y):∀{l:List D}{r:List D},zca f l=some r->zca g l=some r
 |[],_,q=>q
 |d::l,r,q=>by
  unfold zca at q |-;cases e:f d with
  |none=>rw[e] at q;cases q
  |some o=>
   rw[e] at q;rw[h d o e];cases o with
   |none=>exact zmj h q
   |some x=>exact Bv (λr=>zmj h) q
variable{Γ Γ':Nat->∅}
mutual
theorem zad(h:∀f n w,Γ f n=some w->Γ' f n=some w):∀(e:E) (g:Rho) (w:W),ev Γ e g=some w->ev Γ' e g=some w
 |.var i,g,w,q=>by simp only[ev] at q |-;exact q
 |.int i,g,w,q=>by simp only[ev] at q |-;exact q
 |.bl b,g,w,q=>by simp only[ev] at q |-;exact q
 |.non,g,w,q=>by simp only[ev] at q |-;exact q
 |.bin o a b,g,w,q=>by
  simp only[ev] at q |-;exact Bk (λx=>Bv (zad h a g)) (λx y=>Bk (λx=>Bv (zad h b g)) λ_ _ z=>z) q
 |.neg a,g,w,q=>by
  simp only[ev] at q |-;exact Bv (λx=>Bk (λx=>Bv (zad h a g)) λ_ _ z=>z) q
 |.cmp c a b,g,w,q=>by
  simp only[ev] at q |-;exact Bk (λx=>Bv (zad h a g)) (λx y=>Bk (λx=>Bv (zad h b g)) λ_ _ z=>z) q
 |.and a b,g,w,q=>by
  simp only[ev] at q |-;exact Bk (λx=>Bk (λx=>Bv (zad h a g)) λ_ _ z=>z) (λx y=>zkn (zad h b g y) λz=>z) q
 |.or a b,g,w,q=>by
  simp only[ev] at q |-;exact Bk (λx=>Bk (λx=>Bv (zad h a g)) λ_ _ z=>z) (λx y=>zkn (λz=>z) (zad h b g y)) q
 |.not a,g,w,q=>by
  simp only[ev] at q |-;exact Bv (λx=>Bk (λx=>Bv (zad h a g)) λ_ _ z=>z) q
 |.ife c a b,g,w,q=>by
  simp only[ev] at q |-;exact Bk (λx=>Bk (λx=>Bv (zad h c g)) λ_ _ z=>z) (λx y=>zkn (zad h a g y) (zad h b g y)) q
 |.tup l,g,w,q=>by
  simp only[ev] at q |-;exact Bk (evs_le h l g) (λ_ _ z=>z) q
 |.lst l,g,w,q=>by
  simp only[ev] at q |-;exact Bk (evs_le h l g) (λ_ _ z=>z) q
 |.ix a b,g,w,q=>by
  simp only[ev] at q |-;exact Bk (λx=>Bv (zad h a g)) (λx y=>Bk (λx=>Bv (zad h b g)) λ_ _ z=>z) q
 |.sl a lo u,g,w,q=>by
  simp only[ev] at q |-;exact Bk (λx=>Bv (zad h a g)) (λx y=>Bk (evo_le h lo g) λ_ _=>Bk (evo_le h u g) λ_ _ z=>z) q
 |.call f l,g,w,q=>by
  simp only[ev] at q |-;exact Bk (evs_le h l g) (λn y=>h f n y) q
 |.bi f l,g,w,q=>by
  simp only[ev] at q |-;exact Bk (evs_le h l g) (λ_ _ z=>z) q
 |.isi a t,g,w,q=>by
  simp only[ev] at q |-;exact Bk (λx=>Bv (zad h a g)) (λ_ _ z=>z) q
 |.isx a A,g,w,q=>by
  simp only[ev] at q |-;exact Bk (λx=>Bv (zad h a g)) (λ_ _ z=>z) q
 |.idx a b,g,w,q=>by
  simp only[ev] at q |-;exact Bk (λx=>Bv (zad h a g)) (λx y=>Bk (λx=>Bv (zad h b g)) λ_ _ z=>z) q
 |.fld a j,g,w,q=>by
  simp only[ev] at q |-;exact Bv (λx=>Bk (λx=>Bv (zad h a g)) λ_ _ z=>z) q
 |.fm f l,g,w,q=>by
  simp only[ev] at q |-;exact Bk (evs_le h l g) (λ_ _ z=>z) q
 |.lcp a,g,w,q=>by
  simp only[ev] at q |-;exact Bk (λx=>Bv (zad h a g)) (λ_ _ z=>z) q
 |.comp p t v B fr c,g,w,q=>by
  simp only[ev] at q |-;refine Bk (evW_le h v g) (λs y=>zkn (Bv λr=>zmj λd y=>?_) λz=>z) q;exact Bk (λ_ z=>z) (λm y=>Bk (evc_le h c m) λk y=>zkn (Bv λx=>Bv (zad h p m)) λz=>z)
theorem evs_le(h:∀f g w,Γ f g=some w->Γ' f g=some w):∀(l:Es) (d:Rho) (w:List D),evs Γ l d=some w->evs Γ' l d=some w
 |.nil,d,w,q=>by simp only[evs] at q |-;exact q
 |.cons e l,d,w,q=>by
  simp only[evs] at q |-;exact Bk (λx=>Bv (zad h e d)) (λx y=>Bv (evs_le h l d)) q
theorem evo_le(h:∀f g w,Γ f g=some w->Γ' f g=some w):∀(l:EO) (d:Rho) (w:Option Int),evo Γ l d=some w->evo Γ' l d=some w
 |.non,d,w,q=>by simp only[evo] at q |-;exact q
 |.som e,d,w,q=>by
  simp only[evo] at q |-;exact Bv (λx=>Bk (λx=>Bv (zad h e d)) λ_ _ z=>z) q
theorem evc_le(h:∀f g w,Γ f g=some w->Γ' f g=some w):∀(l:EO) (d:Rho) (w:Bool),evc Γ l d=some w->evc Γ' l d=some w
 |.non,d,w,q=>by simp only[evc] at q |-;exact q
 |.som e,d,w,q=>by
  simp only[evc] at q |-;exact Bk (λx=>Bv (zad h e d)) (λ_ _ z=>z) q
theorem evW_le(h:∀f g w,Γ f g=some w->Γ' f g=some w):∀(l:It') (d:Rho) (w:List D),evW Γ l d=some w->evW Γ' l d=some w
 |.seq e,d,w,q=>by
  simp only[evW] at q |-;exact Bk (λx=>Bv (zad h e d)) (λ_ _ z=>z) q
 |.seqV i,d,w,q=>by simp only[evW] at q |-;exact q
 |.range1 a,d,w,q=>by
  simp only[evW] at q |-;exact Bk (λx=>Bk (λx=>Bv (zad h a d)) λ_ _ z=>z) (λ_ _ z=>z) q
 |.range2 a b,d,w,q=>by
  simp only[evW] at q |-;exact Bk (λx=>Bk (λx=>Bv (zad h a d)) λ_ _ z=>z) (λ_ _=>Bk (λx=>Bk (λx=>Bv (zad h b d)) λ_ _ z=>z) λ_ _ z=>z) q
 |.enum e,d,w,q=>by
  simp only[evW] at q |-;exact Bv (λx=>Bk (λx=>Bv (zad h e d)) λ_ _ z=>z) q
 |.rev e,d,w,q=>by
  simp only[evW] at q |-;exact Bv (λx=>Bk (λx=>Bv (zad h e d)) λ_ _ z=>z) q
 |.zip a b,d,w,q=>by
  simp only[evW] at q |-;exact Bk (λx=>Bk (λx=>Bv (zad h a d)) λ_ _ z=>z) (λ_ _=>Bk (λx=>Bk (λx=>Bv (zad h b d)) λ_ _ z=>z) λ_ _ z=>z) q
end
theorem evI_le(h:∀f g w,Γ f g=some w->Γ' f g=some w):∀(l:It') (d:RhoS) (w:List D×RhoS),evI Γ l d=some w->evI Γ' l d=some w
 |.seq e,d,w,q=>by
  simp only[evI] at q |-;exact Bk (zad h e (view d)) (λ_ _ z=>z) q
 |.seqV i,d,w,q=>by simp only[evI] at q |-;exact q
 |.range1 a,d,w,q=>by
  simp only[evI] at q |-;exact Bk (λx=>Bk (λx=>Bv (zad h a (view d))) λ_ _ z=>z) (λ_ _ z=>z) q
 |.range2 a b,d,w,q=>by
  simp only[evI] at q |-;exact Bk (λx=>Bk (λx=>Bv (zad h a (view d))) λ_ _ z=>z) (λ_ _=>Bk (λx=>Bk (λx=>Bv (zad h b (view d))) λ_ _ z=>z) λ_ _ z=>z) q
 |.enum e,d,w,q=>by
  simp only[evI] at q |-;exact Bk (zad h e (view d)) (λ_ _ z=>z) q
 |.rev e,d,w,q=>by simp only[evI] at q;cases q
 |.zip a b,d,w,q=>by
  simp only[evI] at q |-;exact Bk (λx=>Bk (λx=>Bv (zad h a (view d))) λ_ _ z=>z) (λ_ _=>Bk (λx=>Bk (λx=>Bv (zad h b (view d))) λ_ _ z=>z) λ_ _ z=>z) q
theorem zmx{c h:RhoS->Option Bool}{b i:RhoS->Option Out}(j:∀d k,c d=some k->h d=some k)(l:∀d o,b d=some o->i d=some o):∀(n:Nat) (d:RhoS) (o:Out),zay c b n d=some o->zay h i n d=some o
 |0,_,_,q=>by cases q
 |n+1,d,o,q=>by
  unfold zay at q |-;cases e:c d with
  |none=>rw[e] at q;cases q
  |some k=>
   simp only[e] at q;simp only[j d k e];cases k with
   |false=>exact q
   |true=>
    cases f:b d with
    |none=>simp only[f] at q;cases q
    |some o2=>
     simp only[f] at q;simp only[l d o2 f];cases o2 with
     |rt w=>exact q
     |nx g=>exact zmx j l n g o q
theorem zzj{h:D->RhoS->Option RhoS}{b m:RhoS->Option Out}(n:∀f o,b f=some o->m f=some o):∀(l:List D) (f:RhoS) (o:Out),forN h b l f=some o->forN h m l f=some o
 |[],_,_,q=>q
 |d::l,f,o,q=>by
  unfold forN at q |-;cases e:h d f with
  |none=>rw[e] at q;cases q
  |some g=>
   simp only[e] at q;simp only
   cases i:b g with
   |none=>simp only[i] at q;cases q
   |some o2=>
    simp only[i] at q;simp only[n g o2 i];cases o2 with
    |rt w=>exact q
    |nx j=>exact zzj n l j o q
mutual
def zxz:S->Bool
 |.tryC _ _ _ _ _=>false
 |.iff _ a b=>noTrys a && noTrys b
 |.whl _ b=>noTrys b
 |.frr _ _ b=>noTrys b
 |_=>true
def noTrys:Ss->Bool
 |.nil=>true
 |.cons s l=>zxz s && noTrys l
end
mutual
theorem ex_le(h:∀f r w,Γ f r=some w->Γ' f r=some w):∀(s:S) (d:RhoS) (o:Out),zxz s=true->ex Γ s d=some o->ex Γ' s d=some o
 |.asg i e,d,o,_,q=>by
  simp only[ex] at q |-;exact Bk (zad h e _) (λ_ _ z=>z) q
 |.unp A e,d,o,_,q=>by
  simp only[ex] at q |-;exact Bk (zad h e _) (λ_ _ z=>z) q
 |.par i j a b,d,o,_,q=>by
  simp only[ex] at q |-;exact Bk (λx=>Bv (zad h a _)) (λ_ _=>Bk (λx=>Bv (zad h b _)) λ_ _ z=>z) q
 |.ret e,d,o,_,q=>by
  simp only[ex] at q |-;exact Bv (zad h e _) q
 |.retV i,d,o,_,q=>by simp only[ex] at q |-;exact q
 |.iff c a b,d,o,n,q=>by
  simp only[zxz,Zk] at n;simp only[ex,evB] at q |-;exact Bk (λx=>Bk (λx=>Bv (zad h c _)) λ_ _ z=>z) (λ_ y=>zkn (exs_le h a d y n.1) (exs_le h b d y n.2)) q
 |.whl c b,d,o,n,q=>by
  simp only[zxz] at n;simp only[ex] at q |-;obtain⟨m,u⟩:=zkf q
  refine zhu (zmx (λd k z=>?_) (λd o z=>exs_le h b d o n z) m d o u);unfold evB at z |-;exact Bk (λx=>Bv (zad h c _)) (λ_ _ z=>z) z
 |.frr t v b,d,o,n,q=>by
  simp only[zxz] at n;simp only[ex] at q |-;exact Bk (evI_le h v d) (λp y=>zzj (λd o z=>exs_le h b d o n z) _ _ _) q
 |.tryC f g l i j,d,o,n,q=>by cases n
 |.app i e,d,o,_,q=>by
  simp only[ex] at q |-;exact Bk (zad h e _) (λ_ _ z=>z) q
 |.pop i,d,o,_,q=>by simp only[ex] at q |-;exact q
 |.clr i,d,o,_,q=>by simp only[ex] at q |-;exact q
 |.seti i k e,d,o,_,q=>by
  simp only[ex] at q |-;exact Bk (zad h e _) (λ_ _=>Bk (λx=>Bk (λx=>Bv (zad h k _)) λ_ _ z=>z) λ_ _ z=>z) q
 |.never,d,o,_,q=>by simp only[ex] at q;cases q
theorem exs_le(h:∀f g w,Γ f g=some w->Γ' f g=some w):∀(l:Ss) (d:RhoS) (o:Out),noTrys l=true->exs Γ l d=some o->exs Γ' l d=some o
 |.nil,d,o,_,q=>by simp only[exs] at q |-;exact q
 |.cons s l,d,o,n,q=>by
  simp only[noTrys,Zk] at n;simp only[exs] at q |-;refine Bk (λo z=>ex_le h s d o n.1 z) (λo2 y z=>?_) q;cases o2 with
  |nx e=>exact exs_le h l e y n.2 z
  |rt w=>exact z
end
def tab:List (Nat×(∅))->Nat->∅
 |[],_=>λ_=>none
 |(k,m)::t,n=>if n=k then m else tab t n
theorem ygs:∀(T:List (Nat×(∅))),(∀p∈T,Γ p.1=p.2)->∀f d w,tab T f d=some w->Γ f d=some w
 |[],_,_,_,_,q=>by simp only[tab] at q;cases q
 |(k,m)::t,h,f,d,w,q=>by
  unfold tab at q;by_cases e:f=k
  ·rw[if_pos e] at q;subst e;rw[h (f,m) (.head _)];exact q
  ·rw[if_neg e] at q;exact ygs t (λp g=>h p (.tail _ g)) f d w q
def zbv{b:Ss}{n:Nat}(T:List (Nat×(∅)))(e:∀p∈T,Γ p.1=p.2)(f:noTrys b=true)(d:List D)(w:W)(h:run (tab T) b n d=some w):run Γ b n d=some w:=by
 unfold run at h |-;exact Bk (λo=>exs_le (ygs T e) b _ o f) (λ_ _ z=>z) h
def yjh{k:Nat}{m:∅}{t:List (Nat×(∅))}:tab ((k,m)::t) k=m:=if_pos rfl
def tab_s{k n:Nat}{m:∅}{t:List (Nat×(∅))}(h:n≠k):tab ((k,m)::t) n=tab t n:=if_neg h
end
def cm_lt{a b:Int}:cmpD .lt (.int a) (.int b)=some (decide (a<b)):=rfl
def cm_le{a b:Int}:cmpD .le (.int a) (.int b)=some (decide (a<=b)):=rfl
def cm_gt{a b:Int}:cmpD .gt (.int a) (.int b)=some (decide (b<a)):=rfl
def cm_ge{a b:Int}:cmpD .ge (.int a) (.int b)=some (decide (b<=a)):=rfl
def cm_eq{a b:Int}:cmpD .eq (.int a) (.int b)=some (decide (a=b)):=rfl
def cm_ne{a b:Int}:cmpD .ne (.int a) (.int b)=some (!decide (a=b)):=rfl
def cm_eqB{a b:Bool}:cmpD .eq (.bl a) (.bl b)=some (a == b):=rfl
def cm_neB{a b:Bool}:cmpD .ne (.bl a) (.bl b)=some (!(a == b)):=rfl
def cm_eqT{a b:List D}:cmpD .eq (.tup a) (.tup b)=if (dOkL 49 a && dOkL 49 b)=true then some (eqL a b) else none:=rfl
def cm_neT{a b:List D}:cmpD .ne (.tup a) (.tup b)=if (dOkL 49 a && dOkL 49 b)=true then some (!eqL a b) else none:=by
 show Option.map not (if _ then _ else _)=_;split<;>rfl
def cm_eqL{a b:List D}:cmpD .eq (.lst a) (.lst b)=if (dOkL 49 a && dOkL 49 b)=true then some (eqL a b) else none:=rfl
def cm_neL{a b:List D}:cmpD .ne (.lst a) (.lst b)=if (dOkL 49 a && dOkL 49 b)=true then some (!eqL a b) else none:=by
 show Option.map not (if _ then _ else _)=_;split<;>rfl
def cm_in{x:D}{l:List D}:cmpD .isin x (.lst l)=if (dOk 50 x && dOkL 49 l)=true then some (l.any λy=>eqD y x) else none:=rfl
def yig{x:D}{l:List D}:cmpD .notin x (.lst l)=if (dOk 50 x && dOkL 49 l)=true then some (!(l.any λy=>eqD y x)) else none:=by
 show Option.map not (if _ then _ else _)=_;split<;>rfl
def cm_isN{a:D}:cmpD .isN a .non=some (zol a):=rfl
def yoe{a:D}:cmpD .notN a .non=some (!zol a):=rfl
end DL
namespace Sf
abbrev gc(a b:Int):Int:=((Int.gcd a b:Nat):Int)
def gc_nn(a b:Int):0<=gc a b:=Yn _
def zfi{a b:Int}(h:b≠0):0<gc a b:=J1.mpr (Int.gcd_pos_of_ne_zero_right a h)
def zqj{g s:Int}:gc s (g%s)=gc g s:=by
 have e:g=g%s+s*(g/s):=by have:=Int.emod_add_mul_ediv g s;omega
 show((Int.gcd s (g%s):Nat):Int)=((Int.gcd g s:Nat):Int);have h:Int.gcd s g=Int.gcd s (g%s):=by
  conv=>lhs;rw[e]
  rw[Int.gcd_add_mul_left_right]
 rw[Gi g s,h]
def zly{g:Int}(h:0<=g):gc g 0=g:=by
 show((Int.gcd g 0:Nat):Int)=g;rw[Int.gcd_zero];omega
def yhr(a b:Int):gc (if a<0 then -a else a) (if b<0 then -b else b)=gc a b:=by
 show((Int.gcd _ _:Nat):Int)=_;split<;>split<;>simp only[Int.neg_gcd,Int.gcd_neg]
def zuy{p q:Int}(h:∀c,c∣p->c∣q->c∣1):Int.gcd p q=1:=Qg.mpr h
def zfj{k m n:Int}(h:Int.gcd k m=1)(d:k∣m*n):k∣n:=by
 have e:=Ka (n:=k) (m:=m) (k:=n) h;have f:Int.gcd k (m*n)=k.natAbs:=Int.gcd_eq_natAbs_left d;rw[f] at e;exact Int.gcd_eq_natAbs_left_iff_dvd.mp e.symm
def zaq{a b:Int}(h:a∣b)(d:b≠0):a.natAbs<=b.natAbs:=
 Nat.le_of_dvd vB (Gh.mpr h)
def zlz{a b:Int}(h:0<gc a b):∃x y:Int,a=gc a b*x/\b=gc a b*y/\Int.gcd x y=1:=by
 obtain⟨x,d⟩:=Qv a b
 obtain⟨y,f⟩:=Wh a b
 refine⟨x,y,d,f,?_⟩
 have g:Int.gcd a b=(gc a b).natAbs*Int.gcd x y:=by
  have e:=Int.gcd_mul_left (gc a b) x y;have i:gc a b*x=a:=d.symm;have j:gc a b*y=b:=f.symm;rw[i,j] at e;exact e
 have l:(gc a b).natAbs=Int.gcd a b:=Yo _;rw[l] at g;have m:0<Int.gcd a b:=J1.mp h;exact(Nat.eq_of_mul_eq_mul_left m (by rw[Nat.mul_one];exact g)).symm
structure Fra(p q:Int):Prop where
 pos:0<q
 co:Int.gcd p q=1
def Fra.cross_dvd{p q N B:Int}(f:Fra p q)(h:p*B=N*q):p∣N/\q∣B:=by
 constructor
 ·refine zfj f.co ⟨B,?_⟩;rw[h,Kl]
 ·refine zfj (k:=q) (m:=p) (by rw[Gi];exact f.co) ⟨N,?_⟩;rw[h,Kl]
def Fra.cross_le{p q N B:Int}(f:Fra p q)(d:B≠0)(h:p*B=N*q):p.natAbs<=N.natAbs/\q.natAbs<=B.natAbs:=by
 obtain⟨i,j⟩:=f.cross_dvd h
 refine⟨?_,zaq j d⟩
 by_cases g:N=0
 ·subst g;rw[Int.zero_mul] at h;rcases Vj.mp h with e|e
  ·rw[e];exact Zl _
  ·exact absurd e d
 ·exact zaq i g
def Fra.uniq{p q r s:Int}(f:Fra p q)(g:Fra r s)(h:p*s=r*q):p=r/\q=s:=by
 have d:=(f.cross_dvd h).2;have i:=(g.cross_dvd h.symm).2;have e:q=s:=Int.dvd_antisymm (Qf f.pos) (Qf g.pos) d i;subst e;exact⟨Je (by have:=f.pos;omega) h,rfl⟩
def by_(t b:Int):Int:=if b<0 then -(gc t b) else gc t b
def low1(t b:Int):Int:=t.fdiv (by_ t b)
def low2(t b:Int):Int:=b.fdiv (by_ t b)
def by_ne{t b:Int}(h:b≠0):by_ t b≠0:=by
 have:=zfi (a:=t) h
 unfold by_;split<;>omega
def zof{t b:Int}(h:b≠0):t=by_ t b*low1 t b/\b=by_ t b*low2 t b/\Fra (low1 t b) (low2 t b):=by
 have i:=zfi (a:=t) h;obtain⟨x,y,r,j,m⟩:=zlz i
 have n:=by_ne (t:=t) h;have key:∃z:Int,(z=1\/z = -1)/\by_ t b=gc t b*z/\0<y*z:=by
  by_cases g:b<0
  ·refine⟨-1,.inr rfl,?_,?_⟩
   ·unfold by_;rw[if_pos g];omega
   ·have:y<0:=by
     rw[j] at g;by_cases d:y<0
     ·exact d
     ·exact absurd g (Ky.mpr (Yx (Qf i) (Ky.mp d)))
    omega
  ·refine⟨1,.inl rfl,?_,?_⟩
   ·unfold by_;rw[if_neg g];omega
   ·have:0<y:=by
     by_cases d:0<y
     ·exact d
     ·have:=Qd (Qf i) (Ky.mp d)
      rw[<-j] at this;omega
    omega
 obtain⟨z,o,f,l⟩:=key
 have v:z*z=1:=by rcases o with e|e<;>subst e<;>decide
 have p:t=by_ t b*(x*z):=by
  rw[f];conv=>lhs;rw[r]
  grind
 have q:b=by_ t b*(y*z):=by
  rw[f];conv=>lhs;rw[j]
  grind
 have l1:low1 t b=x*z:=by
  unfold low1;conv=>lhs;arg 1;rw[p]
  exact Z7 _ n
 have l2:low2 t b=y*z:=by
  unfold low2;conv=>lhs;arg 1;rw[q]
  exact Z7 _ n
 rw[l1,l2];refine⟨p,q,l,?_⟩
 rcases o with e|e<;>subst e
 ·rw[Uj,Uj];exact m
 ·have s:x * -1 = -x:=by omega
  have u:y * -1 = -y:=by omega
  rw[s,u,Int.neg_gcd,Int.gcd_neg];exact m
def zyk{t b:Int}(h:b≠0):Fra (low1 t b) (low2 t b):=(zof h).2.2
def zyl{t b:Int}(h:b≠0):low1 t b*b=t*low2 t b:=by
 obtain⟨d,e,_⟩:=zof (t:=t) h
 generalize by_ t b=g at d e;generalize low1 t b=x at d e |-;generalize low2 t b=y at d e |-;subst d;subst e;grind
def addT(a b c d:Int):Int:=a*(d.fdiv (gc b d))+c*(b.fdiv (gc b d))
def add1(a b c d:Int):Int:=(addT a b c d).fdiv (gc (addT a b c d) (gc b d))
def add2(a b c d:Int):Int:=b.fdiv (gc b d)*d.fdiv (gc (addT a b c d) (gc b d))
def add_ok{a b c d:Int}(f:Fra a b)(g:Fra c d):Fra (add1 a b c d) (add2 a b c d)/\add1 a b c d*(b*d)=(a*d+c*b)*add2 a b c d:=by
 have W:=f.pos;have X:=g.pos;have u:0<gc b d:=zfi vB;obtain⟨h,e,v,ed,H⟩:=zlz u
 have I:0<gc (addT a b c d) (gc b d):=zfi vB;obtain⟨o,l,t,J,w⟩:=zlz I
 have p:gc b d≠0:=by omega
 have q:gc (addT a b c d) (gc b d)≠0:=by omega
 have K:b.fdiv (gc b d)=h:=by
  conv=>lhs;arg 1;rw[v]
  exact Z7 _ p
 have M:d.fdiv (gc b d)=e:=by
  conv=>lhs;arg 1;rw[ed]
  exact Z7 _ p
 have N:addT a b c d=a*e+c*h:=by unfold addT;rw[K,M]
 have O:add1 a b c d=o:=by
  unfold add1;conv=>lhs;arg 1;rw[t]
  exact Z7 _ q
 have z:d=gc (addT a b c d) (gc b d)*(l*e):=by
  conv=>lhs;rw[ed]
  rw[<-Us];conv=>lhs;arg 1;rw[J]
 have P:d.fdiv (gc (addT a b c d) (gc b d))=l*e:=by
  conv=>lhs;arg 1;rw[z]
  exact Z7 _ q
 have Q:add2 a b c d=h*(l*e):=by unfold add2;rw[K,P]
 rw[O,Q];generalize gc (addT a b c d) (gc b d)=r at *;generalize gc b d=s at *;rw[N] at t;have R:0<h:=by
  by_cases m:0<h
  ·exact m
  ·have:=Qd (Qf u) (Ky.mp m);omega
 have S:0<e:=by
  by_cases m:0<e
  ·exact m
  ·have:=Qd (Qf u) (Ky.mp m);omega
 have T:0<l:=by
  by_cases m:0<l
  ·exact m
  ·have:=Qd (Qf I) (Ky.mp m);omega
 have U:Int.gcd a h=1:=zuy λk n i=>Qg.mp f.co k n (by rw[v];exact Km i)
 have V:Int.gcd c e=1:=zuy λk n i=>Qg.mp g.co k n (by rw[ed];exact Km i)
 have L:o∣a*e+c*h:=⟨r,by rw[t,Kl]⟩;have A:Int.gcd o h=1:=zuy λk n i=>by
  have B:k∣a*e:=(Int.dvd_add_left (Km i)).mp (Wu n L);have C:Int.gcd k e=1:=zuy λj D E=>Qg.mp H j (Wu D i) E
  have F:k∣a:=zfj C (by rw[Kl];exact B);exact Qg.mp U k F i
 have G:Int.gcd o e=1:=zuy λk n i=>by
  have B:k∣c*h:=(Int.dvd_add_right (Km i)).mp (Wu n L);have C:Int.gcd k h=1:=zuy λj D E=>Qg.mp H j E (Wu D i)
  have F:k∣c:=zfj C (by rw[Kl];exact B);exact Qg.mp V k F i
 refine⟨⟨Ws R (Ws T S),?_⟩,?_⟩
 ·rw[Ka A,Ka w];exact G
 ·subst v;subst ed;subst J;have:a*(r*l*e)+c*(r*l*h)=r*l*(r*o):=by rw[<-t];grind
  rw[this];grind
end Sf
namespace Sf
def zdc(x:Rat):Fra x.num (x.den:Int):=⟨by have:=x.den_nz;omega,by
 have:=x.reduced
 show Nat.gcd x.num.natAbs ((x.den:Int)).natAbs=1;exact this⟩
def rat_of{p q:Int}(f:Fra p q):(Rat.divInt p q).num=p/\((Rat.divInt p q).den:Int)=q:=by
 have d:=f.pos;refine(zdc (Rat.divInt p q)).uniq f ?_;have e:Rat.divInt (Rat.divInt p q).num ((Rat.divInt p q).den:Int)=Rat.divInt p q:=Ym _;exact(Vx (by have:=(Rat.divInt p q).den_nz;omega) vB).mp e
def zrv{x:Rat}{p q:Int}(d:q≠0):x=Rat.divInt p q↔x.num*q=p*(x.den:Int):=by
 conv=>lhs;lhs;rw[<-Ym x]
 exact Vx (by have:=x.den_nz;omega) d
def ymh{t b:Int}(h:b≠0):(Rat.divInt t b).num=low1 t b/\((Rat.divInt t b).den:Int)=low2 t b:=
 (zdc _).uniq (zyk h) (by
  have e:=(zrv (x:=Rat.divInt t b) h).mp rfl;have c:=zyl (t:=t) h;have f:=(zyk (t:=t) h).pos;apply Je h
  grind)
def ypf(x y:Rat):(x+y).num=add1 x.num x.den y.num y.den/\((x+y).den:Int)=add2 x.num x.den y.num y.den:=by
 obtain⟨f,c⟩:=add_ok (zdc x) (zdc y)
 refine(zdc _).uniq f ?_;have d:(x.den:Int)≠0:=by have:=x.den_nz;omega
 have g:(y.den:Int)≠0:=by have:=y.den_nz;omega
 have e:x+y=Rat.divInt (x.num*y.den+y.num*x.den) (x.den*y.den):=by
  conv=>lhs;rw[<-Ym x,<-Ym y]
  exact Kz _ _ d g
 have h:=(zrv (x:=x+y) (Yf d g)).mp e;apply Je (Yf d g)
 grind
def zqc(x y:Rat):x*y=Rat.divInt (x.num*y.num) (x.den*y.den):=by
 conv=>lhs;rw[<-Ym x,<-Ym y]
 exact Wf _ _
def zzq{x y:Rat}(h:y≠0):x/y=Rat.divInt (x.num*y.den) (x.den*y.num):=by
 conv=>lhs;rw[<-Ym x,<-Ym y]
 rw[Yz,Rat.inv_divInt,Wf]
structure Sz(n:Nat)(x:Rat):Prop where
 t:x.num.natAbs<2^n
 b:x.den<2^n
def Bn{m n:Nat}(h:m<=n):2^m<=2^n:=Nat.pow_le_pow_right vA h
def Sz.mono{m n:Nat}{x:Rat}(h:Sz m x)(k:m<=n):Sz n x:=⟨Ze h.t (Bn k),Ze h.b (Bn k)⟩
def zam{a b m n:Nat}(h:a<2^m)(k:b<2^n):a*b<2^(m+n):=by
 rw[Gv];exact Nat.mul_lt_mul'' h k
def zcy{x:Rat}{p q:Int}{n:Nat}(d:q≠0)(e:x=Rat.divInt p q)(f:p.natAbs<2^n)(g:q.natAbs<2^n):Sz n x:=by
 obtain⟨a,b⟩:=(zdc x).cross_le d ((zrv d).mp e)
 exact⟨Ye a f,by have:=b;omega⟩
def Sz.mul{m n:Nat}{x y:Rat}(d:Sz m x)(e:Sz n y):Sz (m+n) (x*y):=by
 have a:(x.den:Int)≠0:=by have:=x.den_nz;omega
 have b:(y.den:Int)≠0:=by have:=y.den_nz;omega
 refine zcy (Yf a b) (zqc x y) ?_ ?_
 ·rw[Z5];exact zam d.t e.t
 ·rw[Z5];exact zam d.b e.b
def Sz.add{m n:Nat}{x y:Rat}(d:Sz m x)(f:Sz n y):Sz (m+n+1) (x+y):=by
 have a:(x.den:Int)≠0:=by have:=x.den_nz;omega
 have b:(y.den:Int)≠0:=by have:=y.den_nz;omega
 have e:x+y=Rat.divInt (x.num*y.den+y.num*x.den) (x.den*y.den):=by
  conv=>lhs;rw[<-Ym x,<-Ym y]
  exact Kz _ _ a b
 have i:=zam d.t f.b;have g:=zam f.t d.b;rw[Gf n m] at g;have t3:=zam d.b f.b;have j:2^(m+n+1)=2^(m+n)+2^(m+n):=by rw[Jy];omega
 refine zcy (Yf a b) e ?_ ?_
 ·have h:=Jm (x.num*y.den) (y.num*x.den);rw[Z5,Z5,Yo,Yo] at h;omega
 ·rw[Z5,Yo,Yo];omega
def Sz.neg{n:Nat}{x:Rat}(d:Sz n x):Sz n (-x):=⟨by show(-x.num).natAbs<_;rw[Jj];exact d.t,d.b⟩
def Sz.sub{m n:Nat}{x y:Rat}(d:Sz m x)(e:Sz n y):Sz (m+n+1) (x-y):=by
 rw[Jf];exact d.add e.neg
def Sz.div{m n:Nat}{x y:Rat}(d:Sz m x)(e:Sz n y)(h:y≠0):Sz (m+n) (x/y):=by
 have a:(x.den:Int)≠0:=by have:=x.den_nz;omega
 have b:y.num≠0:=λz=>h (Rat.num_eq_zero.mp z)
 refine zcy (Yf a b) (zzq h) ?_ ?_
 ·rw[Z5];exact zam d.t e.b
 ·rw[Z5];exact zam d.b e.t
def sz_low{t b:Int}{n:Nat}(h:b≠0)(d:t.natAbs<2^n)(e:b.natAbs<2^n):Sz n (Rat.divInt t b):=zcy h rfl d e
end Sf
namespace DL
def zjo:Ss:=#v[.asg 2 (.bi .abs #v[.var 0]),.asg 3 (.bi .abs #v[.var 1]),.whl (.cmp .ne (.var 3) (.int 0)) #v[.asg 4 (.bin .mod (.var 2) (.var 3)),.asg 2 (.var 3),.asg 3 (.var 4)],.retV 2]
def zrb:Ss:=#v[.iff (.cmp .eq (.var 1) (.int 0)) #v[.never] .nil,.asg 2 (.call 0 #v[.var 0,.var 1]),.iff (.cmp .lt (.var 1) (.int 0)) #v[.asg 2 (.neg (.var 2))] .nil,.ret (.tup #v[.bin .fdiv (.var 0) (.var 2),.bin .fdiv (.var 1) (.var 2)])]
def yaz:Ss:=#v[.asg 2 (.call 0 #v[.ix (.var 0) (.int 1),.ix (.var 1) (.int 1)]),.asg 3 (.bin .add (.bin .mul (.ix (.var 0) (.int 0)) (.bin .fdiv (.ix (.var 1) (.int 1)) (.var 2))) (.bin .mul (.ix (.var 1) (.int 0)) (.bin .fdiv (.ix (.var 0) (.int 1)) (.var 2)))),.asg 4 (.call 0 #v[.var 3,.var 2]),.ret (.tup #v[.bin .fdiv (.var 3) (.var 4),.bin .mul (.bin .fdiv (.ix (.var 0) (.int 1)) (.var 2)) (.bin .fdiv (.ix (.var 1) (.int 1)) (.var 4))])]
def zrc:Ss:=#v[.ret (.call 9 #v[.var 0,.tup #v[.neg (.ix (.var 1) (.int 0)),.ix (.var 1) (.int 1)]])]
def zra:Ss:=#v[.ret (.call 1 #v[.bin .mul (.ix (.var 0) (.int 0)) (.ix (.var 1) (.int 0)),.bin .mul (.ix (.var 0) (.int 1)) (.ix (.var 1) (.int 1))])]
def zdh:Ss:=#v[.asg 0 (.bi .abs #v[.var 0]),.asg 1 (.bi .abs #v[.var 1]),.whl (.cmp .gt (.var 1) (.int 0)) #v[.par 0 1 (.var 1) (.bin .mod (.var 0) (.var 1))],.retV 0]
def yba:Ss:=#v[.ret (.call 1 #v[.bin .mul (.ix (.var 0) (.int 0)) (.ix (.var 1) (.int 1)),.bin .mul (.ix (.var 0) (.int 1)) (.ix (.var 1) (.int 0))])]
def zgg:Ss:=#v[.ret (.cmp .lt (.bin .mul (.ix (.var 0) (.int 0)) (.ix (.var 1) (.int 1))) (.bin .mul (.ix (.var 1) (.int 0)) (.ix (.var 0) (.int 1))))]
def zcw:Ss:=#v[.ret (.comp (.call 42 #v[.var 1,.var 2]) (.tup [1,2]) (.seq (.call 41 #v[.var 0])) 3 [] .non)]
def zms:Ss:=#v[.ret (.fm .zip #v[.var 0,.bin .add (.sl (.var 0) (.som (.int 1)) .non) (.sl (.var 0) .non (.som (.int 1)))])]
def zbs:Ss:=#v[.asg 2 (.call 10 #v[.ix (.var 0) (.int 1),.ix (.var 1) (.int 1)]),.asg 3 (.call 10 #v[.ix (.var 1) (.int 0),.ix (.var 0) (.int 0)]),.asg 4 (.call 9 #v[.call 11 #v[.var 2,.ix (.var 0) (.int 0)],.call 11 #v[.var 3,.ix (.var 0) (.int 1)]]),.ret (.call 43 #v[.tup #v[.var 2,.var 3,.var 4]])]
def zbc:Ss:=#v[.asg 1 (.int 1),.frr (.name 2) (.seqV 0) #v[.asg 1 (.bin .mul (.var 1) (.ix (.var 2) (.int 1)))],.asg 3 (.comp (.bin .mul (.ix (.var 1) (.int 0)) (.bin .fdiv (.var 2) (.ix (.var 1) (.int 1)))) (.name 1) (.seqV 0) 2 [1] .non),.asg 4 (.int 0),.frr (.name 5) (.seqV 3) #v[.asg 4 (.call 0 #v[.var 4,.var 5])],.ret (.fm .tupl #v[.comp (.bin .fdiv (.var 1) (.var 2)) (.name 1) (.seqV 3) 2 [4] .non])]
def zmt:Ss:=#v[.ret (.call 9 #v[.call 11 #v[.tup #v[.var 0,.int 1],.ix (.var 2) (.int 0)],.call 11 #v[.tup #v[.var 1,.int 1],.ix (.var 2) (.int 1)]])]
def zfs:Ss:=#v[.asg 1 (.tup #v[.int 0,.int 1]),.frr (.tup [2,3]) (.seq (.call 41 #v[.var 0])) #v[.asg 4 (.call 10 #v[.call 11 #v[.ix (.var 2) (.int 0),.ix (.var 3) (.int 1)],.call 11 #v[.ix (.var 3) (.int 0),.ix (.var 2) (.int 1)]]),.asg 1 (.call 9 #v[.var 1,.var 4])],.retV 1]
def zjn:Ss:=#v[.asg 3 (.call 50 #v[.var 1,.var 2,.ix (.var 0) (.int 0)]),.frr (.name 4) (.seq (.sl (.var 0) (.som (.int 1)) .non)) #v[.asg 5 (.call 50 #v[.var 1,.var 2,.var 4]),.iff (.call 21 #v[.var 3,.var 5]) #v[.asg 3 (.var 5)] .nil],.retV 3]
def zfq:Ss:=#v[.ret (.comp (.call 67 #v[.var 1,.var 2]) (.name 1) (.seqV 0) 2 [1] .non)]
def zmv:Ss:=#v[.ret (.tup #v[.call 9 #v[.ix (.var 0) (.int 0),.ix (.var 1) (.int 0)],.call 9 #v[.ix (.var 0) (.int 1),.ix (.var 1) (.int 1)]])]
def zjm:Ss:=#v[.iff (.cmp .le (.ix (.var 1) (.int 0)) (.int 0)) #v[.never] .nil,.ret (.comp (.tup #v[.call 11 #v[.var 1,.var 3],.call 11 #v[.var 2,.var 3]]) (.tup [1,2]) (.seqV 0) 3 [1] .non)]
def zmu:Ss:=#v[.ret (.bin .sub (.bin .mul (.ix (.var 0) (.int 0)) (.ix (.var 1) (.int 1))) (.bin .mul (.ix (.var 0) (.int 1)) (.ix (.var 1) (.int 0))))]
def o_bounds_of:It'×E×Es×Es:=((.enum (.call 40 #v[.var 0])),(.call 10 #v[.tup #v[.int 0,.int 1],.call 59 #v[.var 1,.neg (.ix (.var 4) (.int 0)),.neg (.ix (.var 4) (.int 1))]]),#v[.call 92 #v[.var 2,.var 6]],#v[.bi .len #v[.var 2]])
def zfp:Ss:=#v[.ret (.tup #v[.ix (.var 0) (.bin .sub (.var 1) (.int 1)),.ix (.var 0) (.var 1),.ix (.var 0) (.bin .mod (.bin .add (.var 1) (.int 1)) (.bi .len #v[.var 0]))])]
def zcl:Ss:=#v[.asg 1 (.fld (.ix (.var 0) (.int 0)) 1),.asg 2 (.fld (.ix (.var 0) (.int 1)) 1),.asg 3 (.fld (.ix (.var 0) (.int 2)) 1),.ret (.lst #v[.call 81 #v[.var 2,.var 3],.call 81 #v[.var 3,.var 1],.call 81 #v[.var 1,.var 2]])]
def o_set_closing:Ss×E×Nat:=(#v[.asg 1 (.int 1),.frr (.name 2) (.seqV 0) #v[.asg 1 (.bin .mul (.var 1) (.ix (.fld (.var 2) 2) (.int 1)))],.asg 3 (.int 0),.asg 4 (.int 0),.frr (.tup [5,2]) (.zip (.call 93 #v[.var 0]) (.var 0)) #v[.asg 3 (.bin .sub (.var 3) (.bin .mul (.bin .mul (.var 5) (.ix (.fld (.var 2) 1) (.int 2))) (.var 1))),.asg 4 (.bin .sub (.var 4) (.bin .mul (.bin .mul (.var 5) (.ix (.fld (.var 2) 2) (.int 0))) (.bin .fdiv (.var 1) (.ix (.fld (.var 2) 2) (.int 1)))))],.asg 6 (.ix (.var 0) (.int 1))],(.ife (.cmp .gt (.var 4) (.int 0)) (.tup #v[.var 3,.var 4]) .non),6)
def zef:Ss:=#v[.asg 1 .non,.frr (.name 2) (.range1 (.bi .len #v[.var 0])) #v[.asg 3 (.fld (.ix (.var 0) (.var 2)) 3),.iff (.and (.cmp .notN (.var 3) .non) (.or (.cmp .isN (.var 1) .non) (.call 21 #v[.var 3,.fld (.ix (.var 0) (.var 1)) 3]))) #v[.asg 1 (.var 2)] .nil],.retV 1]
def zee:Ss:=#v[.ret (.cmp .ge (.ix (.call 93 #v[.call 92 #v[.var 0,.var 1]]) (.int 1)) (.int 0))]
def o_drop:Es×Es:=(#v[.call 92 #v[.var 0,.bin .sub (.var 1) (.int 1)]],#v[.call 92 #v[.var 0,.bin .mod (.var 1) (.bi .len #v[.var 0])]])
def zdw:Ss:=#v[.asg 3 (.call 99 #v[.var 0,.var 2]),.asg 4 (.call 99 #v[.var 1,.var 2]),.asg 5 (.tup #v[.call 81 #v[.fld (.var 0) 1,.fld (.var 1) 1],.int 1]),.asg 6 (.call 10 #v[.call 11 #v[.tup #v[.ix (.fld (.var 1) 1) (.int 1),.int 1],.var 3],.call 11 #v[.tup #v[.ix (.fld (.var 0) 1) (.int 1),.int 1],.var 4]]),.asg 7 (.call 10 #v[.call 11 #v[.tup #v[.ix (.fld (.var 0) 1) (.int 0),.int 1],.var 4],.call 11 #v[.tup #v[.ix (.fld (.var 1) 1) (.int 0),.int 1],.var 3]]),.ret (.tup #v[.call 20 #v[.var 6,.var 5],.call 20 #v[.var 7,.var 5]])]
def zfr:Ss:=#v[.ret (.call 10 #v[.tup #v[.ix (.fld (.var 0) 1) (.int 2),.int 1],.call 11 #v[.var 1,.fld (.var 0) 2]])]
def o_fit:E×E×Ss:=((.call 95 #v[.var 2]),(.not (.call 96 #v[.var 2,.var 3])),#v[.asg 4 (.call 92 #v[.var 2,.var 3]),.asg 5 (.fld (.ix (.var 2) (.var 3)) 3),.asg 6 (.call 1 #v[.ix (.var 5) (.int 0),.ix (.var 5) (.int 1)]),.asg 7 (.call 126 #v[.var 4]),.asg 8 (.comp (.var 1) (.tup [1,2]) (.seqV 7) 3 [] .non),.asg 9 (.comp (.var 2) (.tup [1,2]) (.seqV 7) 3 [] .non),.ret (.tup #v[.var 6,.call 98 #v[.ix (.var 4) (.int 0),.ix (.var 4) (.int 1),.var 6],.var 8,.var 9])])
def zch:Ss:=#v[.asg 1 (.call 93 #v[.var 0]),.asg 2 (.int 0),.frr (.name 3) (.seqV 1) #v[.asg 2 (.call 0 #v[.var 2,.var 3])],.asg 4 (.comp (.tup #v[.fld (.var 1) 0,.bin .fdiv (.var 2) (.var 3)]) (.tup [1,2]) (.zip (.var 0) (.var 1)) 3 [2] (.som (.cmp .ne (.var 2) (.int 0)))),.ret (.bi .srt #v[.var 4])]
def zcb:Ss:=#v[.asg 3 (.comp (.int 0) (.name 1) (.range1 (.var 1)) 2 [] .non),.frr (.name 2) (.range1 (.bi .max #v[.var 1,.bi .min #v[.bi .len #v[.var 0],.int 63]])) #v[.asg 4 (.int 0),.iff (.cmp .gt (.bi .len #v[.var 0]) (.int 0)) #v[.asg 4 (.bin .mod (.ix (.var 0) (.bin .mod (.var 2) (.bi .min #v[.bi .len #v[.var 0],.int 63]))) (.bin .add (.bin .pow (.int 10) (.int 60)) (.int 7)))] .nil,.asg 5 (.bin .mod (.var 2) (.var 1)),.seti 3 (.var 5) (.bin .mod (.bin .add (.bin .add (.bin .mul (.ix (.var 3) (.var 5)) (.int 48271)) (.var 4)) (.bin .mul (.var 2) (.var 2))) (.bin .add (.bin .pow (.int 10) (.int 60)) (.int 7)))],.retV 3]
def zco:Ss:=#v[.asg 2 (.call 12 #v[.var 0,.var 1]),.ret (.tup #v[.bin .fdiv (.var 0) (.var 2),.bin .fdiv (.var 1) (.var 2)])]
def zbf:Ss:=#v[.asg 1 (.lst #v[.bin .sub (.bin .mod (.ix (.var 0) (.int 1)) (.int 3)) (.int 3)]),.frr (.name 2) (.range1 (.bin .add (.int 1) (.bin .mod (.ix (.var 0) (.int 2)) (.int 2)))) #v[.app 1 (.bin .add (.bin .add (.ix (.var 1) (.neg (.int 1))) (.int 1)) (.bin .mod (.bin .fdiv (.ix (.var 0) (.int 2)) (.bin .add (.int 2) (.bin .mul (.int 3) (.var 2)))) (.int 3)))],.asg 3 (.lst #v[.bin .sub (.bin .mod (.ix (.var 0) (.int 3)) (.int 4)) (.int 3)]),.frr (.name 2) (.range1 (.bin .mod (.bin .fdiv (.ix (.var 0) (.int 3)) (.int 4)) (.int 3))) #v[.app 3 (.bin .add (.bin .add (.ix (.var 3) (.neg (.int 1))) (.int 1)) (.bin .mod (.bin .fdiv (.ix (.var 0) (.int 4)) (.bin .add (.int 1) (.bin .mul (.int 3) (.var 2)))) (.int 3)))],.asg 4 (.bin .add (.bin .add (.bin .mul (.int 2) (.bi .max #v[.comp (.bin .mul (.var 1) (.var 1)) (.name 1) (.seq (.bin .add (.var 1) (.var 3))) 2 [] .non])) (.int 1)) (.bin .mod (.bin .fdiv (.ix (.var 0) (.int 4)) (.int 32)) (.int 9))),.ret (.bin .add (.comp (.tup #v[.var 1,.bin .mul (.var 1) (.var 1)]) (.name 1) (.seqV 1) 2 [] .non) (.comp (.tup #v[.var 1,.bin .sub (.var 2) (.bin .mul (.var 1) (.var 1))]) (.name 1) (.rev (.var 3)) 2 [4] .non))]
def zbd:Ss:=#v[.asg 1 (.tup #v[.bin .add (.int 1) (.bin .mod (.ix (.var 0) (.int 1)) (.int 5)),.bin .sub (.bin .mod (.ix (.var 0) (.int 2)) (.int 7)) (.int 3)]),.asg 2 (.tup #v[.bin .sub (.int 0) (.bin .mod (.ix (.var 0) (.int 3)) (.int 4)),.bin .add (.int 1) (.bin .mod (.ix (.var 0) (.int 4)) (.int 5))]),.iff (.cmp .le (.bin .mul (.ix (.var 1) (.int 0)) (.ix (.var 2) (.int 1))) (.bin .mul (.ix (.var 1) (.int 1)) (.ix (.var 2) (.int 0)))) #v[.asg 2 (.tup #v[.ix (.var 2) (.int 0),.bin .add (.ix (.var 2) (.int 1)) (.int 10)])] .nil,.asg 3 (.tup #v[.bin .add (.ix (.var 1) (.int 0)) (.ix (.var 2) (.int 0)),.bin .add (.ix (.var 1) (.int 1)) (.ix (.var 2) (.int 1))]),.asg 4 (.bin .mod (.ix (.var 0) (.int 0)) (.int 5)),.iff (.cmp .eq (.var 4) (.int 2)) #v[.ret (.lst #v[.tup #v[.int 0,.int 0],.var 1,.var 3,.var 2])] .nil,.iff (.cmp .eq (.var 4) (.int 3)) #v[.ret (.lst #v[.tup #v[.int 0,.int 0],.var 1,.var 2])] .nil,.iff (.cmp .eq (.var 4) (.int 4)) #v[.asg 5 (.tup #v[.bin .add (.ix (.var 1) (.int 0)) (.ix (.var 3) (.int 0)),.bin .add (.ix (.var 1) (.int 1)) (.ix (.var 3) (.int 1))]),.asg 6 (.tup #v[.bin .add (.ix (.var 2) (.int 0)) (.ix (.var 3) (.int 0)),.bin .add (.ix (.var 2) (.int 1)) (.ix (.var 3) (.int 1))]),.ret (.lst #v[.tup #v[.int 0,.int 0],.var 1,.var 5,.tup #v[.bin .mul (.int 2) (.ix (.var 3) (.int 0)),.bin .mul (.int 2) (.ix (.var 3) (.int 1))],.var 6,.var 2])] .nil,.ret (.call 105 #v[.var 0])]
def zav:Ss:=#v[.asg 1 (.call 46 #v[.var 0]),.asg 2 (.ix (.lst #v[.int 1,.bin .add (.int 1) (.bin .mod (.ix (.var 0) (.int 5)) (.bin .pow (.int 10) (.int 9)))]) (.bin .mod (.bin .fdiv (.ix (.var 0) (.int 0)) (.int 5)) (.int 2))),.asg 3 (.ix (.lst #v[.int 10,.bin .pow (.int 10) (.int 18)]) (.bin .mod (.bin .fdiv (.ix (.var 0) (.int 0)) (.int 10)) (.int 2))),.asg 4 (.ix (.lst #v[.int 1,.bin .add (.int 1) (.bin .mod (.ix (.var 0) (.int 5)) (.int 6))]) (.bin .mod (.bin .fdiv (.ix (.var 0) (.int 0)) (.int 20)) (.int 2))),.asg 5 (.idx (.var 1) (.bi .min #v[.var 1])),.asg 6 (.lst .nil),.frr (.tup [7,8]) (.seq (.bin .add (.sl (.var 1) (.som (.var 5)) .non) (.sl (.var 1) .non (.som (.var 5))))) #v[.asg 9 (.call 103 #v[.bin .add (.bin .mul (.var 7) (.var 2)) (.bin .mod (.ix (.var 0) (.int 6)) (.var 3)),.var 4]),.app 6 (.tup #v[.var 9,.call 103 #v[.bin .add (.bin .mul (.var 8) (.var 2)) (.bin .mod (.ix (.var 0) (.int 7)) (.var 3)),.var 4]])],.retV 6]
def zag:Ss:=#v[.ret (.call 103 #v[.bin .mul (.ix (.var 0) (.int 0)) (.ix (.var 1) (.int 0)),.bin .mul (.ix (.var 0) (.int 1)) (.ix (.var 1) (.int 1))])]
def zgf:Ss:=#v[.ret (.cmp .lt (.bin .mul (.ix (.var 0) (.int 0)) (.ix (.var 1) (.int 1))) (.bin .mul (.ix (.var 1) (.int 0)) (.ix (.var 0) (.int 1))))]
end DL
namespace Hu
abbrev Pt:=Int×Int
def lt(a b:Pt):Prop:=a.1<b.1\/(a.1=b.1/\a.2<b.2)
end Hu
namespace DL
def zcc:Ss:=#v[.ret (.comp (.call 98 #v[.ix (.var 2) (.bin .sub (.var 1) (.int 1)),.ix (.var 2) (.var 1),.var 3]) (.name 1) (.range1 (.bi .len #v[.var 0])) 2 [0,1] .non)]
def o_pushes:E×E×E×Ss:=((.call 95 #v[.var 2]),(.call 21 #v[.fld (.ix (.var 2) (.var 3)) 3,.tup #v[.int 1,.int 1]]),(.call 96 #v[.var 2,.var 3]),#v[.asg 4 (.call 100 #v[.var 2,.tup #v[.int 1,.int 1]]),.ret (.comp (.var 2) (.tup [1,2]) (.enum (.var 4)) 3 [4] (.som (.cmp .notin (.var 2) (.sl (.var 3) .non (.som (.var 1))))))])
def zjp:Ss:=#v[.asg 2 (.call 20 #v[.call 10 #v[.ix (.ix (.var 0) (.int 1)) (.int 0),.ix (.ix (.var 0) (.int 0)) (.int 0)],.call 10 #v[.ix (.ix (.var 1) (.int 1)) (.int 0),.ix (.ix (.var 1) (.int 0)) (.int 0)]]),.asg 3 (.call 68 #v[.var 1,.var 2]),.asg 4 (.tup #v[.call 10 #v[.ix (.ix (.var 0) (.int 0)) (.int 0),.ix (.ix (.var 3) (.int 0)) (.int 0)],.call 10 #v[.ix (.ix (.var 0) (.int 0)) (.int 1),.ix (.ix (.var 3) (.int 0)) (.int 1)]]),.iff (.cmp .eq (.call 66 #v[.var 3,.var 4]) (.var 0)) #v[.ret (.tup #v[.var 2,.var 4])] .nil,.ret .non]
def zbe:Ss:=#v[.asg 1 (.call 102 #v[.var 0,.int 26]),.asg 2 (.call 47 #v[.var 1]),.asg 3 (.call 47 #v[.sl (.var 1) (.som (.int 8)) .non]),.asg 4 (.call 47 #v[.sl (.var 1) (.som (.int 16)) .non]),.iff (.cmp .eq (.bin .mod (.ix (.var 1) (.int 24)) (.int 3)) (.int 1)) #v[.asg 5 (.tup #v[.tup #v[.bin .mod (.ix (.var 1) (.int 24)) (.int 101),.int 1],.tup #v[.bin .mod (.ix (.var 1) (.int 25)) (.int 101),.int 1]]),.asg 3 (.call 66 #v[.call 68 #v[.var 2,.call 103 #v[.bin .add (.int 1) (.bin .mod (.ix (.var 1) (.int 25)) (.int 9)),.bin .add (.int 1) (.bin .mod (.ix (.var 1) (.int 24)) (.int 9))]],.var 5])] .nil,.asg 6 (.ix (.call 125 #v[.var 2,.var 3]) (.int 0)),.asg 7 (.ix (.call 125 #v[.var 3,.var 2]) (.int 0)),.iff (.call 110 #v[.ix (.call 125 #v[.var 2,.var 4]) (.int 0),.call 74 #v[.var 6,.ix (.call 125 #v[.var 3,.var 4]) (.int 0)]]) #v[.ret (.bl false)] .nil,.asg 8 (.call 74 #v[.var 6,.var 7]),.iff (.or (.call 110 #v[.tup #v[.int 1,.int 1],.var 8]) (.cmp .ne (.cmp .eq (.var 8) (.tup #v[.int 1,.int 1])) (.cmp .notN (.call 132 #v[.var 2,.var 3]) .non))) #v[.ret (.bl false)] .nil,.iff (.call 110 #v[.call 58 #v[.var 2],.call 74 #v[.call 74 #v[.var 6,.var 6],.call 58 #v[.var 3]]]) #v[.ret (.bl false)] .nil,.asg 9 (.call 74 #v[.var 6,.tup #v[.bin .add (.bin .add (.bin .pow (.int 10) (.int 9)) (.int 1)) (.bin .mod (.ix (.var 1) (.int 25)) (.int 100)),.bin .pow (.int 10) (.int 9)]]),.ret (.and (.cmp .ne (.call 101 #v[.var 2,.call 68 #v[.var 3,.var 6]]) (.lst .nil)) (.cmp .eq (.call 101 #v[.var 2,.call 68 #v[.var 3,.var 9]]) (.lst .nil)))]
open PySem L2 PyProof.Rows
section
variable{X:Cx}{c:TC}{Γ:Nat->∅}
def tPre(K:vE)(f g:Hp)(j e:RhoS)(u:TS):TS:=λD l H=>∃F,SR K f g F H l j/\∀d h i,Same F i->SR K f g i h d e->u D d h
theorem yhe(q:XC X c Γ){post:List Stmt}{u:TS}(r:PSs X post u)(i j:Hp):∀(t:List Stmt) (m:Nat) (f:Ss) (g d:RhoS),trSs m c t=some f->exs Γ f g=some (.nx d)->PSs X (t++post) (tPre X.K i j g d u)
 |[],0,_,_,_,h,_=>by simp only[trSs] at h;cases h
 |_::_,0,_,_,_,h,_=>by simp only[trSs] at h;cases h
 |[],m+1,f,g,d,h,e=>by
  simp only[trSs] at h;cases h;simp only[exs] at e;cases e;exact PSs.mono r λD v H ⟨F,S,k⟩=>k v H F (Same.refl _) S
 |s::l,m+1,f,g,d,h,e=>by
  simp only[trSs] at h;obtain⟨P,z,h⟩:=Za.mp h
  obtain⟨A,B,h⟩:=Zb.mp h
  subst h;simp only[exs] at e;obtain⟨o,C,e⟩:=Za.mp e
  cases o with
  |rt w=>cases e
  |nx n=>
   have a:=(zvy q m).1 _ _ _ _ z C i j;have b:=yhe q r i j l m A n d B e;exact PSs.mono (B9 a b) λD v H ⟨F,S,k⟩=>⟨F,S,λE Q G I J=>⟨G,J,λp L M N O=>k p L M (I.trans N) O⟩⟩
end
def BoAt(K:vE)(F H:Hp)(a:Addr)(l:List D):Prop:=F a=none/\∃C h d e f g,PySem.W.nsIn K mainGlobals "Bound" = some (some (.ref C))/\H a=some (.ins C h [("place",d),("side",e),("least",f),("closing",g)])/\DenL K F l [d,e,f,g]
structure Obs(K:vE)(F H:Hp)(L:Addr)(os:List (Addr×List D)):Prop where
 hL:H L=some (.lst (os.map λo=>.ref o.1))
 fL:F L=none
 ob:∀o∈os,BoAt K F H o.1 o.2
 nd:(os.map (·.1)).Nodup
def Tr(L:Addr)(d:List (Addr×List D))(b:Addr):Prop:=b=L\/b∈d.map (·.1)
open Classical in
def snap(F H:Hp)(L:Addr)(d:List (Addr×List D)):Hp:=λb=>if Tr L d b then H b else F b
open Classical in
def bare(F:Hp)(L:Addr)(d:List (Addr×List D)):Hp:=λb=>if Tr L d b then none else F b
def dOs(d:List (Addr×List D)):List D:=d.map λo=>.obj o.1 o.2
section
variable{K:vE}{F H:Hp}{L:Addr}{os:List (Addr×List D)}
theorem Obs.none(O:Obs K F H L os){b:Addr}(t:Tr L os b):F b=none:=by
 rcases t with t|t
 ·rw[t];exact O.fL
 ·obtain⟨o,d,e⟩:=Zq.mp t
  rw[<-e];exact(O.ob o d).1
def Obs.same(O:Obs K F H L os):Same F (snap F H L os):=λb o e=>by
 have d:¬Tr L os b:=λt=>by rw[O.none t] at e;cases e
 unfold snap;rw[if_neg d];exact e
def ycm(s:Same F H):Same (snap F H L os) H:=λb o e=>by
 unfold snap at e;by_cases t:Tr L os b
 ·rw[if_pos t] at e;exact e
 ·rw[if_neg t] at e;exact s b o e
def zie{b:Addr}(t:Tr L os b):snap F H L os b=H b:=by unfold snap;rw[if_pos t]
def Obs.denO(O:Obs K F H L os){o:Addr×List D}(e:o∈os):Den K (snap F H L os) (.obj o.1 o.2) (.ref o.1):=by
 obtain⟨_,C,l,f,g,i,j,c,h,d⟩:=O.ob o e
 have t:Tr L os o.1:=.inr (Wp e);exact Den.obj_mk (xs:=[f,g,i,j]) c ((zie t).trans h) rfl (d.mono O.same)
theorem zzu{G:Hp}:∀{l:List (Addr×List D)},(∀o∈l,Den K G (.obj o.1 o.2) (.ref o.1))->DenL K G (dOs l) (l.map λo=>.ref o.1)
 |[],_=>DenL.nil
 |o::l,h=>DenL.cons (h o Wx) (zzu λp d=>h p (Yw _ d))
def Obs.den(O:Obs K F H L os):Den K (snap F H L os) (.lst (dOs os)) (.ref L):=
 Den.lst_mk (SqL.of ((zie (.inl rfl)).trans O.hL)) (zzu λo d=>O.denO d)
def zfo{d:Hp}(O:Obs K F H L os)(s:Same (snap F H L os) d):Same F (bare d L os):=λb o e=>by
 have f:¬Tr L os b:=λt=>by rw[O.none t] at e;cases e
 unfold bare;rw[if_neg f];exact s b o (O.same b o e)
def ygm{d f:Hp}(s:Same d f):Same (bare d L os) f:=λb o e=>by
 unfold bare at e;by_cases t:Tr L os b
 ·rw[if_pos t] at e;cases e
 ·rw[if_neg t] at e;exact s b o e
def ygn{d:Hp}(n:∀a o,d a=some o->snap F H L os a=some o\/H a=none):∀a o,bare d L os a=some o->F a=some o\/H a=none:=λa o e=>by
 unfold bare at e;by_cases t:Tr L os a
 ·rw[if_pos t] at e;cases e
 ·rw[if_neg t] at e;rcases n a o e with z|z
  ·unfold snap at z;rw[if_neg t] at z;exact .inl z
  ·exact .inr z
def zjl{d:Hp}{b:Addr}(t:Tr L os b):bare d L os b=none:=by unfold bare;rw[if_pos t]
def Obs.at(O:Obs K F H L os){b:Addr}(t:Tr L os b):(∃f,H b=some (.lst f))\/∃C e g,H b=some (.ins C e g):=by
 rcases t with t|t
 ·subst t;exact .inl ⟨_,O.hL⟩
 ·obtain⟨o,i,j⟩:=Zq.mp t
  obtain⟨_,C,e,l,m,n,p,c,h,d⟩:=O.ob o i
  rw[<-j];exact .inr ⟨_,_,_,h⟩
def ztk{d:Hp}(O:Obs K F H L os)(s:Same (snap F H L os) d):∀a f,SqT K d a f->SqT K (bare d L os) a f:=λa f h=>by
 have key:∀o,d a=some o->(∀g,o ≠ .lst g)->(∀C i j,o ≠ .ins C i j)->bare d L os a=some o:=λo e l m=>by
  have n:¬Tr L os a:=λt=>by
   rcases O.at t with⟨g,z⟩|⟨C,i,j,z⟩
   ·have:=s a _ ((zie t).trans z)
    rw[e] at this;exact l g (Z3 this)
   ·have:=s a _ ((zie t).trans z)
    rw[e] at this;exact m _ _ _ (Z3 this)
  unfold bare;rw[if_neg n];exact e
 rcases h with(h|⟨o,h⟩)|h
 ·exact .inl (.inl (key _ h (λ_ z=>by cases z) (λ_ _ _ z=>by cases z)))
 ·exact .inl (.inr ⟨o,key _ h (λ_ z=>by cases z) (λ_ _ _ z=>by cases z)⟩)
 ·exact .inr h
def BoAt.move{f g:Hp}{a:Addr}{l:List D}(B:BoAt K F H a l)(s:Same F f)(n:f a=Option.none)(e:g a=H a):BoAt K f g a l:=by
 obtain⟨_,C,i,j,m,o,p,c,h,d⟩:=B
 exact⟨n,C,i,j,m,o,p,c,e.trans h,d.mono s⟩
theorem Obs.move{d g:Hp}(O:Obs K F H L os)(s:Same F d)(n:∀b,Tr L os b->d b=Option.none)(e:∀b,Tr L os b->g b=H b):Obs K d g L os:=
 ⟨(e L (.inl rfl)).trans O.hL,n L (.inl rfl),λo f=>(O.ob o f).move s (n _ (.inr (Wp f))) (e _ (.inr (Wp f))),O.nd⟩
def Obs.read{d e:Hp}(O:Obs K F H L os)(s:Same (snap F H L os) d)(h:Same H e):Obs K (bare d L os) e L os:=
 O.move (zfo O s) (λb t=>zjl t) (λb t=>by
  rcases O.at t with⟨f,z⟩|⟨C,g,i,z⟩
  ·rw[z];exact h b _ z
  ·rw[z];exact h b _ z)
end
open PySem L2 PyProof.Rows
structure SS(K:vE)(F H:Hp)(σ:L2.St)(ρ:Rho):Prop where
 sub:Same F H
 env:∀(i:Nat) d,ρ[i]? = some (some d)->∃v,σ[i]? = some (some v)/\Den K F d v
 len:σ.length=ρ.length
section
variable{K:vE}{F H F' H':Hp}{σ:L2.St}{ρ:Rho}
def SS.er(S:SS K F H σ ρ):ER K H F F H σ ρ:=⟨S.sub,Same.refl _,Same.refl _,λ_ _ e=>.inl e,S.env⟩
theorem SS.mono(S:SS K F H σ ρ)(s:Same F F')(h:Same F' H'):SS K F' H' σ ρ:=⟨h,λi d e=>by
 obtain⟨v,f,g⟩:=S.env i d e
 exact⟨v,f,g.mono s⟩,S.len⟩
theorem SS.set(S:SS K F H σ ρ){i:Nat}{d:D}{v:V}(f:i<ρ.length)(q:Den K F d v):SS K F H (σ.set i (some v)) (ρ.set i (some d)):=⟨S.sub,λj e h=>by
 by_cases z:i=j
 ·subst z;rw[Yv f] at h;cases h;exact⟨v,Yv (by rw[S.len];exact f),q⟩
 ·rw[Yj z] at h;obtain⟨u,g,l⟩:=S.env j e h
  exact⟨u,by rw[Yj z];exact g,l⟩,by rw[W9,W9];exact S.len⟩
end
section
variable{X:Cx}{c:TC}{Γ:Nat->∅}
def tEx(Γ:Nat->∅)(K:vE)(e:E):TE:=λh H Q=>∃F d w,SS K F H h d/\ev Γ e d=some w/\∀v f g,Same F g->ER K H F g f h d->RW K H g f w v->Q v f
def zxr(f:XE X c Γ){n:Nat}{e:Expr}{d:E}(h:trE n c e=some d):PE X e (tEx Γ X.K d):=λpins s g H Q I ⟨F,j,w,S,i,k⟩=>
 (zgp f n).1 _ _ _ _ h i H F pins s g H Q I ⟨F,S.er,k⟩
def tExs(Γ:Nat->∅)(K:vE)(e:Es):TA:=λg H Q=>∃F d h,SS K F H g d/\evs Γ e d=some h/\∀i j f,Same F f->ER K H F f j g d->DenL K f h i->Q i j
def pa_ex(f:XE X c Γ){n:Nat}{e:List Expr}{d:Es}(h:trEs n c e=some d):PA X e (tExs Γ X.K d):=λpos pins s g H Q I ⟨F,j,w,S,i,k⟩=>
 (zgp f n).2.1 _ _ _ _ h i H F pos pins s g H Q I ⟨F,S.er,k⟩
def tExT(Γ:Nat->∅)(K:vE)(e:E):TT:=λg H Q=>∃F f k,SS K F H g f/\((ev Γ e f).map W.d).bind zax=some k/\∀h i,Same F i->ER K H F i h g f->Q k h
def ykt(f:XE X c Γ){n:Nat}{e:Expr}{d:E}(h:trT n c e=some d):PT X e (tExT Γ X.K d):=λpins s g H Q I ⟨F,j,k,S,i,q⟩=>
 (zrr f n).1 _ _ _ _ h i H F pins s g H Q I ⟨F,S.er,q⟩
end
def zgs(K:vE)(i:D->Addr->D->Prop):Sp:=λj H Q _=>∃F v T a d C h g,j=[v]/\Same F H/\Den K F T v/\i T a d/\F a=some (.ins C h g)/\g.length<1000/\PySem.W.nsIn K mainGlobals "Bound" = some (some (.ref C)) /\
 ∀e f u,Same F f->(∀b o,f b=some o->F b=some o\/H b=none)->(∀b o,b≠a->f b=some o->e b=some o)->(∀b o,b≠a->H b=some o->e b=some o)->e a=some (.ins C h (putF "closing" u g))->Den K f d u->Q .non e
section
variable{P:Program}{w:World}{K:vE}{mg:Str->Option Value}{base:Heap}{Γ:Nat->∅}
def set_ok{x q:Str}{n:Stmt}{f:Addr}{Z:FuncData}{N:List Str}{p mid:Str}{r k m:Nat}{h i:List (Str×Nat×Nat)}{t:List Stmt}{z:Ss}{g:Expr}{ve:E}{B G I:Pos}{Ψ:D->Addr->D->Prop}
 (Fn:Fun K x q n f Z)(S:FnScope N [p] (Bj n))(hb:Bl n=t++[.Assign [.Attribute (.Name mid B) "closing" G] g I])
 (J:trSs m ⟨N,Bj n,h,i,true⟩ t=some z)(L:trE m ⟨N,Bj n,h,i,true⟩ g=some ve)(M:slot ⟨N,Bj n,h,i,true⟩ mid=some r)
 (O:∀env,swapsWith g (some (.Attribute (.Name mid B) "closing" G)) I.line env=pure false)
 (hd:Deps P w K mg base k Γ h i true)
 (U:∀T a d,Ψ T a d->∃j l,exs Γ z ([~~~T]++List.replicate (N.length-1) none)=some (.nx j)/\(view j)[r]? = some (some (.obj a l))/\ev Γ ve (view j)=some (.val d)):
  FnOk P w K mg base CX0 (k+1) f Z [p] (zgs K Ψ):=by
 refine Fn.ok S (λvs H Q E ⟨F,v,T,a,d,C,dx,fs,V,_⟩=>by rw[V];rfl) (λa0 A outer s H vs Q E hr ⟨F,v,T,a,d,C,dx,fs,V,h2,h3,h4,h5,h6,h7,h8⟩=>?_);have W:=zto (CX:=CX0) (E:=E) (outer:=outer) (H:=H) S hd hr;subst V;obtain⟨j,l,e1,e2,e3⟩:=U T a d h4
 obtain⟨s1,s2,s3,s4⟩:=zak W.toXE M
 have hv:=(zgp W.toXE m).1 _ _ _ _ L e3 H F;have hl:=zcz (znq (f := "closing") (pos:=I) (pos':=G) (zat (pos:=B) s1 (DL.Loc.vis s2) s3 s4) hv (O _));have hp:=yhe W hl H F t m z _ _ J e1;rw[<-hb] at hp;refine⟨_,hp,F,?_,λa1 H1 F1 q1 S1=>?_⟩
 ·exact zrs (N:=N) (K:=K) h2 (DenL.cons h3 DenL.nil)
 ·obtain⟨s0,R⟩:=S1.borrow
  refine⟨_,R,λu H2 F2 q2 R2 dn=>?_⟩
  obtain⟨y,y1,y2⟩:=R2.env r _ e2
  obtain⟨z1,C',a2,a3,xs,z2,z3,z4,z5⟩:=y2.obj
  have z6:=R2.base _ _ h5;rw[z3] at z6;cases z6;obtain⟨X,c',cl,na⟩:=(hd.xf rfl).ex
  have c2:some (some (Value.ref C))=some (some (Value.ref X)):=h7.symm.trans c';cases c2;refine⟨y,y1,a,C,dx,fs,z1,R2.sub _ _ z3,cl,na "closing" vA,h6,?_⟩
  refine h8 _ F2 u R2.base R2.new (λb o Y e=>?_) (λb o Y e=>?_) Bs dn
  ·rw[Bo Y];exact R2.sub b o e
  ·rw[Bo Y];exact R2.same b o e
def zwg(K:vE):Sp:=λh H Q _=>∃x C d e f g,h=[.ref x,e,f,g]/\PySem.W.nsIn K mainGlobals "Bound" = some (some (.ref C))/\H x=some (.ins C d []) /\
 Q .non (upd H x (.ins C d [("place",e),("side",f),("least",g),("closing", .non)]))
def ymn{x e:Str}{g:Stmt}{f:Addr}{q:FuncData}{k:Nat}{t u v z D F G I J L M N O R T U:Pos}{W}(X:Fun K x e g f q)(S:FnScope ["self","place","side","least"] ["self","place","side","least"] (Bj g))
 (Y:Bl g=[.Assign [.Attribute (.Name "self" t) "place" u] (.Name "place" v) z,.Assign [.Attribute (.Name "self" D) "side" F] (.Name "side" G) I,.Assign [.Attribute (.Name "self" J) "least" L] (.Name "least" M) N,.Assign [.Attribute (.Name "self" O) "closing" R] (.Constant .none W T) U])
 (Z:∀y∈(["self","place","side","least"]:List Str),(Bj g).names.lookup y=some .local)(B:BFacts K):FnOk P w K mg base CX0 (k+1) f q ["self","place","side","least"] (zwg K):=by
 refine X.ok S (λvs H Q E ⟨x,C,h,j,v1,n,o,_⟩=>by rw[o];rfl) (λp A outer s H vs Q E hr ⟨x,C,h,j,v1,n,o,h2,h3,h4⟩=>?_);subst o;obtain⟨a0,r,l,m⟩:=B.ex
 rw[h2] at r;cases r;rw[Y];have d:∀y∈(["self","place","side","least"]:List Str),Vis (cxOf CX0 P w K mg base ["self","place","side","least"] e (Bj g) f p A outer s H E).nox.env.scope y:=λy hy=>.inl (Z y hy)
 refine⟨_,B9 (znq (f := "place") (zat (i:=0) rfl (d "self" vA)) (zat (i:=1) rfl (d "place" vA)) rfl)
  (B9 (znq (f := "side") (zat (i:=0) rfl (d "self" vA)) (zat (i:=2) rfl (d "side" vA)) rfl)
  (B9 (znq (f := "least") (zat (i:=0) rfl (d "self" vA)) (zat (i:=3) rfl (d "least" vA)) rfl)
  (zcz (znq (f := "closing") (zat (i:=0) rfl (d "self" vA)) yhf rfl)))),?_⟩
 have l1:=zcg "place" j [];have l2:=zcg "side" v1 (putF "place" j []);have l3:=zcg "least" n (putF "side" v1 (putF "place" j []));have l0:([]:List (Str×V)).length=0:=rfl;refine⟨j,rfl,.ref x,rfl,x,C,h,[],rfl,h3,l,m "place" vA,by decide,?_⟩
 refine⟨v1,rfl,.ref x,rfl,x,C,h,_,rfl,Bs,l,m "side" vA,by omega,?_⟩
 refine⟨n,rfl,.ref x,rfl,x,C,h,_,rfl,Bs,l,m "least" vA,by omega,?_⟩
 refine⟨.ref x,rfl,x,C,h,_,rfl,Bs,l,m "closing" vA,by omega,?_⟩
 show Q .non _;rw[zku,zku,zku];exact h4
end
open PySem L2 PyProof.Rows
def GSp(P:Program)(w:World)(K:vE)(e:Str->Option Value)(d:Heap)(k:Nat)(x:Str)(sp:Sp):Prop:=
 ∃(a:Addr) (f:FuncData) (ps:List Str),FnOk P w K e d CX0 k a f ps sp/\e x=some (.ref a)/\PySem.W.keepIn K (.ref a)=true/\Binds K f ps []
structure BS(K:vE)(F H:Hp)(σ:L2.St)(ρ:Rho)(L:Addr)(os:List (Addr×List D))(ib:Nat):Prop where
 ss:SS K F H σ ρ
 ob:Obs K F H L os
 hb:σ[ib]? = some (some (.ref L))
 nb:ρ[ib]? = some none
structure Kp(H0 F0:Hp)(T:Addr->Prop)(F H:Hp):Prop where
 fs:Same F0 F
 new:∀b o,F b=some o->F0 b=some o\/H0 b=none
 hs:∀b o,H0 b=some o -> ¬T b->H b=some o
theorem Kp.trans{H0 F0 g h f i:Hp}{T j:Addr->Prop}(a:Kp H0 F0 T g h)(b:Kp h g j f i)(t:∀b,j b->T b)(n:∀b,T b->f b=none):Kp H0 F0 T f i:=
 ⟨a.fs.trans b.fs,λc o e=>(b.new c o e).elim (λz=>a.new c o z) (λz=>by
  refine .inr ?_;cases q:H0 c with
  |none=>rfl
  |some u=>
   have d:¬T c:=λt=>by rw[n c t] at e;cases e
   rw[a.hs c u q d] at z;cases z),λc o e d=>b.hs c o (a.hs c o e d) λl=>d (t c l)⟩
def rhoB(d:Rho)(e:Nat)(f:List (Addr×List D)):Rho:=d.set e (some (.lst (dOs f)))
section
variable{K:vE}{F H:Hp}{σ:L2.St}{ρ:Rho}{L:Addr}{os:List (Addr×List D)}{ib:Nat}{Γ:Nat->∅}
def zze{d:Type}{l:List d}{i:Nat}{x:d}(h:l[i]? = some x):i<l.length:=(Zo.mp h).1
theorem BS.snap(B:BS K F H σ ρ L os ib):SS K (DL.snap F H L os) H σ (rhoB ρ ib os):=by
 have d:=B.ss.mono B.ob.same (ycm B.ss.sub);have:=d.set (zze B.nb) B.ob.den
 rwa [show σ.set ib (some (.ref L))=σ from ?_] at this
 apply Qm
 intro j;by_cases z:ib=j
 ·subst z;rw[Yv (zze B.hb),B.hb]
 ·rw[Yj z]
def BS.back(B:BS K F H σ ρ L os ib){d f:Hp}(s:Same (DL.snap F H L os) d)(R:ER K H (DL.snap F H L os) d f σ (rhoB ρ ib os)):BS K (bare d L os) f σ ρ L os ib/\Kp H F (λ_=>False) (bare d L os) f:=
 ⟨⟨B.ss.mono (zfo B.ob s) (ygm R.sub),B.ob.read s R.same,B.hb,B.nb⟩,zfo B.ob s,ygn R.new,λb o e _=>R.same b o e⟩
theorem BS.set(B:BS K F H σ ρ L os ib){i:Nat}{d:D}{v:V}(f:i<ρ.length)(e:i≠ib)(q:Den K F d v):BS K F H (σ.set i (some v)) (ρ.set i (some d)) L os ib:=
 ⟨B.ss.set f q,B.ob,by rw[Yj e];exact B.hb,by rw[Yj e];exact B.nb⟩
def setC(os:List (Addr×List D))(a:Addr)(d:D):List (Addr×List D):=os.map λo=>(o.1,if o.1=a then o.2.set 3 d else o.2)
def zle{a:Addr}{d:D}:(setC os a d).map (·.1)=os.map (·.1):=by
 unfold setC;rw[Ya];rfl
def ycq{a:Addr}{d:D}:(setC os a d).map (λo=>V.ref o.1)=os.map λo=>V.ref o.1:=by
 unfold setC;rw[Ya];rfl
def setC_tr{a:Addr}{d:D}{b:Addr}:Tr L (setC os a d) b↔Tr L os b:=by unfold Tr;rw[zle]
def zno{d e f g u:V}:putF "closing" u [("place",d),("side",e),("least",f),("closing",g)]=([("place",d),("side",e),("least",f),("closing",u)]:List (Str×V)):=by
 unfold putF;rw[if_neg vA];unfold putF;rw[if_neg vA];unfold putF;rw[if_neg vA];unfold putF;rw[if_pos rfl]
def zzv{G:Hp}{l:List D}{j m n o u:V}{d:D}(h:DenL K G l [j,m,n,o])(q:Den K G d u):DenL K G (l.set 3 d) [j,m,n,u]:=by
 obtain⟨f,g,rfl⟩:∃f g,l=f::g:=by cases l with|nil=>have:=h.length;cases this|cons a b=>exact⟨a,b,rfl⟩
 obtain⟨_,_,e,p,h⟩:=h.inv_cons;cases e
 obtain⟨t,l1,rfl⟩:∃f l1,g=f::l1:=by cases g with|nil=>have:=h.length;cases this|cons a b=>exact⟨a,b,rfl⟩
 obtain⟨_,_,e,r,h⟩:=h.inv_cons;cases e
 obtain⟨v,l2,rfl⟩:∃f l2,l1=f::l2:=by cases l1 with|nil=>have:=h.length;cases this|cons a b=>exact⟨a,b,rfl⟩
 obtain⟨_,_,e,s,h⟩:=h.inv_cons;cases e
 obtain⟨w,i,rfl⟩:∃f i,l2=f::i:=by cases l2 with|nil=>have:=h.length;cases this|cons a b=>exact⟨a,b,rfl⟩
 obtain⟨_,_,e,A,h⟩:=h.inv_cons;cases e
 have z:i=[]:=by have:=h.length;exact V0.mp this.symm
 subst z;exact DenL.cons p (DenL.cons r (DenL.cons s (DenL.cons q DenL.nil)))
theorem Obs.setC{f H3:Hp}(O:Obs K F H L os){a:Addr}{d:D}{u:V}{C l:Addr}{m:List (Str×V)}(J:a∈os.map (·.1))(s:Same F f)(n:∀b,Tr L os b->f b=Option.none)(e:∀b o,b≠a->H b=some o->H3 b=some o)
 (g:H a=some (.ins C l m))(E:H3 a=some (.ins C l (putF "closing" u m)))(q:Den K f d u):Obs K f H3 L (DL.setC os a d):=by
 have i:L≠a:=λz=>by subst z;rw[O.hL] at g;cases g
 refine⟨by rw[ycq];exact e L _ i O.hL,n L (.inl rfl),λo r=>?_,by rw[zle];exact O.nd⟩
 unfold DL.setC at r;obtain⟨p,t,rfl⟩:=Zq.mp r
 obtain⟨M,G,j,v,w,A,I,c,h,B⟩:=O.ob p t
 refine⟨n p.1 (.inr (Wp t)),?_⟩
 by_cases z:p.1=a
 ·simp only[if_pos z];rw[z] at h |-;rw[g] at h;cases h;exact⟨_,_,v,w,A,u,c,by rw[E,zno],zzv (B.mono s) q⟩
 ·simp only[if_neg z];exact⟨G,j,v,w,A,I,c,e _ _ z h,B.mono s⟩
def BS.setc(B:BS K F H σ ρ L os ib){n:D->Addr->D->Prop}{A:Es}{T d:D}{a:Addr}{E:XK}{Q:VK}(U:evs Γ A (rhoB ρ ib os)=some [T])(V:n T a d)(W:lf d=true)(p:a∈os.map (·.1))
 (k:∀f g,BS K g f σ ρ L (DL.setC os a d) ib->Kp H F (Tr L os) g f->Q .non f):zpm (zgs K n) [] E (tExs Γ K A) σ H Q:=
 ⟨_,_,_,B.snap,U,λX G I q i Y=>by
  show zgs K n (X++[]) G Q E;rw[Jb];obtain⟨v,Z,e,qv,qn⟩:=Y.inv_cons
  have:=qn.inv_nil
  subst this e;obtain⟨o,ho,eo⟩:=Zq.mp p
  obtain⟨f0,C,r,J,M,N,O,c,h,dd⟩:=B.ob.ob o ho
  rw[eo] at h;have s:Tr L os a:=.inr p;have P:I a=some (.ins C r [("place",J),("side",M),("least",N),("closing",O)]):=q _ _ ((zie s).trans h);refine⟨I,v,T,a,d,C,r,_,rfl,i.sub,qv,V,P,by simp only[Zv,Ko];decide,c,λf g u R n2 b2 S w2 dn=>?_⟩
  have j:Same (DL.snap F H L os) g:=q.trans R;obtain⟨B1,a0⟩:=B.back q i
  have w:G a=some (.ins C r [("place",J),("side",M),("least",N),("closing",O)]):=i.sub _ _ P;have sm:Same F (bare g L os):=zfo B.ob j;have l:Same (bare g L os) f:=λb o e=>by
   unfold bare at e;by_cases t:Tr L os b
   ·rw[if_pos t] at e;cases e
   ·rw[if_neg t] at e;exact b2 b o (λz=>t (z ▸ s)) e
  have O2:Obs K (bare g L os) f L (DL.setC os a d):=B1.ob.setC p (λb o e=>by
   unfold bare at e |-;by_cases t:Tr L os b
   ·rw[if_pos t] at e;cases e
   ·rw[if_neg t] at e |-;exact R b o e) (λb t=>zjl t) S w w2 (Den.shrink (ztk B.ob j) d W dn)
  refine k f _ ⟨B.ss.mono sm l,O2,B.hb,B.nb⟩ ⟨sm,λb o e=>?_,λb o e m=>S b o (λz=>m (z ▸ s)) (i.same b o e)⟩;have m:¬Tr L os b:=λt=>by rw[zjl t] at e;cases e
  unfold bare at e;rw[if_neg m] at e;rcases n2 b o e with z|z
  ·rcases i.new b o z with y|y
   ·unfold DL.snap at y;rw[if_neg m] at y;exact .inl y
   ·exact .inr y
  ·exact .inr (i.same.free z)⟩
end
open PySem L2 PyProof.Rows
def zgh(K:vE)(i:List (Addr×List D)->Int->List (Addr×List D)->Prop):Sp:=λj H Q _=>∃F L e h d,j=[.ref L,.int h]/\Same F H/\Obs K F H L e/\i e h d /\
 ∀f g,Same g f->Kp H F (Tr L e) g f->(∀b,Tr L e b->g b=none)->Obs K g f L d->Q .non f
theorem zob{d e:Type}(f:d->e):∀(l:List d) (n:Nat),(l.map f).eraseIdx n=(l.eraseIdx n).map f
 |[],_=>rfl
 |a::l,0=>rfl
 |a::l,n+1=>by
  show f a::(l.map f).eraseIdx n=f a::(l.eraseIdx n).map f;rw[zob f l n]
section
variable{K:vE}{F H:Hp}{L:Addr}{os:List (Addr×List D)}
def Obs.erase(O:Obs K F H L os)(n:Nat):Obs K F (upd H L (.lst ((os.eraseIdx n).map λo=>.ref o.1))) L (os.eraseIdx n):=by
 have e:(os.eraseIdx n).Sublist os:=Ga os n;refine⟨Bs,O.fL,λo f=>?_,O.nd.sublist (e.map _)⟩
 have B:=O.ob o (e.subset f);refine B.move (Same.refl _) B.1 (Bo λz=>?_);obtain⟨_,C,g,i,j,l,m,c,h,d⟩:=B
 rw[z,O.hL] at h;cases h
end
section
variable{P:Program}{w:World}{K:vE}{mg:Str->Option Value}{base:Heap}{Γ:Nat->∅}
def zpv{X:Cx}{c:TC}{m k:Nat}{e:Expr}{s:Es}{p g h:Pos}{d:D->Addr->D->Prop}(f:XE X c Γ)(i:Room k X.A)(j:trEs m c [e]=some s)(l:Bm e=true)(n:isGl c "set_closing" = true)
 (G:GSp X.prog X.w X.K X.mg X.base k "set_closing" (zgs X.K d)):PS X (.Expr (.Call (.Name "set_closing" p) [e] [] g) h) (ycl (zpm (zgs X.K d) [] E0 (tExs Γ X.K s))):=by
 obtain⟨a,z,ps,o,q,r,t⟩:=G
 obtain⟨u,v⟩:=zer f n
 exact zfx (zpy (E:=E0) o i u q r t .nil ydq (pa_ex f j) v (Bu l) rfl) rfl
def yno{x u:Str}{v:Stmt}{f:Addr}{fd:FuncData}{k m:Nat}{l r:List (Str×Nat×Nat)}{W X:Expr}{s1 s2:Es}{p p1 p2 p3 ap cp ep c1 c2 q1 q2:Pos}{Y:D->Addr->D->Prop}{Θ:List (Addr×List D)->Int->List (Addr×List D)->Prop}
 (Fn:Fun K x u v f fd)(S:FnScope ["bounds","k"] ["bounds","k"] (Bj v))
 (hb:Bl v=[.Expr (.Call (.Attribute (.Name "bounds" p) "pop" ap) [.Name "k" p1] [] cp) ep,.Expr (.Call (.Name "set_closing" p2) [W] [] c1) q1,.Expr (.Call (.Name "set_closing" p3) [X] [] c2) q2])
 (B:(ap.endLine == cp.line)=true)(hl:∀y∈(["bounds","k"]:List Str),(Bj v).names.lookup y=some .local)
 (Z:trEs m ⟨["bounds","k"],Bj v,l,r,true⟩ [W]=some s1)(a0:trEs m ⟨["bounds","k"],Bj v,l,r,true⟩ [X]=some s2)(n1:Bm W=true)(n2:Bm X=true)
 (hg:isGl ⟨["bounds","k"],Bj v,l,r,true⟩ "set_closing" = true)(G:GSp P w K mg base k "set_closing" (zgs K Y))(hd:Deps P w K mg base k Γ l r true)
 (a3:∀g h j,Θ g h j -> -(2^63)<=h/\h<2^63/\∃n T1 I J T2 R T,seqIndex? h g.length=some n/\n<g.length /\
   evs Γ s1 [some (.lst (dOs (g.eraseIdx n))),some (.int h)]=some [T1]/\Y T1 I J/\lf J=true/\I∈(g.eraseIdx n).map (·.1) /\
   evs Γ s2 [some (.lst (dOs (setC (g.eraseIdx n) I J))),some (.int h)]=some [T2]/\Y T2 R T/\lf T=true/\R∈(g.eraseIdx n).map (·.1)/\j=setC (setC (g.eraseIdx n) I J) R T):
  FnOk P w K mg base CX0 (k+1) f fd ["bounds","k"] (zgh K Θ):=by
 refine Fn.ok S (λvs H Q E ⟨F,L,g,h,j,h1,_⟩=>by rw[h1];rfl) (λa4 A outer s H vs Q E hr ⟨F,L,g,h,j,h1,h2,C,h4,h5⟩=>?_);have hX:=zto (CX:=CX0) (E:=E) (outer:=outer) (H:=H) S hd hr;subst h1;obtain⟨b1,b2,n,T1,I,J,T2,R,T,g1,g2,g3,g4,g5,g6,g7,g8,g9,a5,rfl⟩:=a3 g h j h4
 rw[hb];have M:∀y∈(["bounds","k"]:List Str),Vis (cxOf CX0 P w K mg base ["bounds","k"] u (Bj v) f a4 A outer s H E).nox.env.scope y:=λy hy=>.inl (hl y hy)
 refine⟨_,B9 (zfx (ydp Ji PySem.F.slot_list_pop PySem.F.type_list_pop yea (zat (i:=0) rfl (M "bounds" vA)) (zda (zat (i:=1) rfl (M "k" vA)) zgk (Bu rfl)) rfl (by rw[Bu rfl];rfl) B (Bu rfl) rfl) rfl)
  (B9 (zpv (k:=k) hX.toXE hr Z n1 hg G) (zcz (zpv (k:=k) hX.toXE hr a0 n2 hg G))),?_⟩
 have hx:(g.map λo=>V.ref o.1)[n]? = some (V.ref (g[n]'g2).1):=by rw[Zj,Zg g2];rfl
 refine⟨_,rfl,.inl ⟨rfl,_,SqL.of C.hL⟩,.int h,rfl,L,_,h,n,_,rfl,rfl,C.hL,b1,b2,by rw[Zc];exact g1,hx,?_⟩
 rw[zob];have O1:=C.erase n;have F1:Same F (upd H L (.lst ((g.eraseIdx n).map λo=>.ref o.1))):=λb o e=>by
  rw[Bo (λz=>by subst z;rw[C.fL] at e;cases e)];exact h2 b o e
 have B1:BS K F (upd H L (.lst ((g.eraseIdx n).map λo=>.ref o.1))) (L2.start ["bounds","k"] [.ref L,.int h]) [none,some (.int h)] L (g.eraseIdx n) 0:=by
  refine⟨⟨F1,λi d e=>?_,rfl⟩,O1,rfl,rfl⟩
  match i,e with
  |1,e=>
   cases e;exact⟨_,rfl,Den.int_mk⟩
 have K1:Kp H F (Tr L g) F (upd H L (.lst ((g.eraseIdx n).map λo=>.ref o.1))):=⟨Same.refl _,λ_ _ e=>.inl e,λb o e nt=>by rw[Bo λz=>nt (.inl z)];exact e⟩;have trS:∀b,Tr L (g.eraseIdx n) b->Tr L g b:=λb t=>t.imp id λt=>((Ga g n).map _).subset t
 refine B1.setc g3 g4 g5 g6 λH2 F2 B2 k2=>?_;have N:∀b,Tr L g b->F2 b=none:=λb t=>by
  cases q:F2 b with
  |none=>rfl
  |some o=>
   rcases k2.new b o q with z|z
   ·rw[C.none t] at z;cases z
   ·have:=C.at t
    by_cases U:b=L
    ·subst U;rw[Bs] at z;cases z
    ·rw[Bo U] at z;rcases this with⟨_,y⟩|⟨_,_,_,y⟩<;>(rw[y] at z;cases z)
 have K2:=K1.trans k2 trS N;refine B2.setc g7 g8 g9 (by rw[zle];exact a5) λH3 F3 B3 k3=>?_;have O:∀b,Tr L g b->F3 b=none:=λb t=>by
  cases q:F3 b with
  |none=>rfl
  |some o=>
   rcases k3.new b o q with z|z
   ·rw[N b t] at z;cases z
   ·by_cases t2:Tr L (g.eraseIdx n) b
    ·have:=B2.ob.at (setC_tr.mpr t2)
     rcases this with⟨_,y⟩|⟨_,_,_,y⟩<;>(rw[y] at z;cases z)
    ·have U:b≠L:=λz=>t2 (.inl z)
     rcases C.at t with⟨_,y⟩|⟨_,_,_,y⟩<;>(rw[<-Bo (H:=H) (o:=.lst ((g.eraseIdx n).map λo=>.ref o.1)) U] at y;rw[k2.hs b _ y t2] at z;cases z)
 exact h5 H3 F3 B3.ss.sub (K2.trans k3 (λb t=>trS b (setC_tr.mp t)) O) O B3.ob
end
open PySem L2 PyProof.Rows
structure KnB(H0 F0 F H:Hp):Prop where
 fs:Same F0 F
 new:∀b o,F b=some o->F0 b=some o\/H0 b=none
 hs:Same H0 H
def KnB.step{H0 F0 d g f i:Hp}(k:KnB H0 F0 d g)(s:Same d f)(n:∀b o,f b=some o->d b=some o\/g b=none)(h:Same H0 i):KnB H0 F0 f i:=
 ⟨k.fs.trans s,λb o e=>(n b o e).elim (k.new b o) λz=>.inr (k.hs.free z),h⟩
section
variable{K:vE}{F H:Hp}{L:Addr}{os:List (Addr×List D)}
def Obs.add(O:Obs K F H L os)(v:Same F H){C x g:Addr}{j m n:V}{p s l:D}(A:PySem.W.nsIn K mainGlobals "Bound" = some (some (.ref C)))(w:H x=Option.none)(r:H g=Option.none)(ne:g≠x)
 (E:Den K F p j)(G:Den K F s m)(I:Den K F l n){q:Hp}(e:q=upd (upd (upd H g (.own x)) x (.ins C g [("place",j),("side",m),("least",n),("closing", .non)])) L (.lst ((os.map λo=>.ref o.1)++[.ref x]))):
  Obs K F q L (os++[(x,[p,s,l,.non])])/\Same F q/\(∀b o,H b=some o->b≠L->q b=some o):=by
 subst e;have t:∀b o,H b=some o->b≠x:=λb o e z=>by rw[z,w] at e;cases e
 have J:∀b o,H b=some o->b≠g:=λb o e z=>by rw[z,r] at e;cases e
 have f:∀b o,H b=some o->b≠L->upd (upd (upd H g (.own x)) x (.ins C g [("place",j),("side",m),("least",n),("closing", .non)])) L (.lst ((os.map λo=>.ref o.1)++[.ref x])) b=some o:=λb o e M=>by
  rw[Bo M,Bo (t b o e),Bo (J b o e)];exact e
 have N:x≠L:=λz=>t L _ O.hL z.symm
 have P:F x=Option.none:=v.free w;refine⟨⟨?_,O.fL,λo i=>?_,?_⟩,λb o e=>f b o (v b o e) (λz=>by rw[z,O.fL] at e;cases e),f⟩
 ·rw[Bs,Y7];rfl
 ·rcases Y0.mp i with i|i
  ·have B:=O.ob o i;refine B.move (Same.refl _) B.1 ?_;obtain⟨_,Q,u,R,S,T,U,c,h,d⟩:=B
   rw[h];exact f _ _ h (λz=>by rw[z,O.hL] at h;cases h)
  ·have:=Z0.mp i
   subst this;exact⟨P,C,g,j,m,n,.non,A,by rw[Bo N,Bs],DenL.cons E (DenL.cons G (DenL.cons I (DenL.cons Den.non_mk DenL.nil)))⟩
 ·rw[Y7];refine G7.mpr ⟨O.nd,Wk _ _,λa X b Y z=>?_⟩;have:=Z0.mp Y
  subst this;obtain⟨o,Z,h2⟩:=Zq.mp X
  obtain⟨_,Q,u,R,S,T,U,c,h,d⟩:=O.ob o Z
  exact t _ _ h (h2.trans z)
end
structure MkB(P:Program)(w:World)(K:vE)(mg:Str->Option Value)(base:Heap)(k:Nat):Prop where
 ex:∃C f fd ps,PySem.W.nsIn K mainGlobals "Bound" = some (some (.ref C))/\mg "Bound" = some (.ref C)/\Mk K C f/\FnOk P w K mg base CX0 k f fd ps (zwg K)/\Binds K fd ps []
def rB(d e:D)(f g h i:Option D):Rho:=[some d,some e,none,f,g,h,i]
def NB:List Str:=["one","other","bounds","place","side","least","k"]
structure FB(K:vE)(H0 F0 F H:Hp)(σ:L2.St)(ρ:Rho)(L:Addr)(os:List (Addr×List D)):Prop where
 bs:BS K F H σ ρ L os 2
 kn:KnB H0 F0 F H
 fr:∀b,Tr L os b->H0 b=none
section
variable{K:vE}{H0 F0 F H:Hp}{σ:L2.St}{ρ:Rho}{L:Addr}{os:List (Addr×List D)}{Γ:Nat->∅}
def FB.more(B:FB K H0 F0 F H σ ρ L os){d e:Hp}(s:Same F d)(f:Same d e)(n:∀b o,d b=some o->F b=some o\/H b=none)(h:Same H e):FB K H0 F0 d e σ ρ L os:=by
 refine⟨⟨B.bs.ss.mono s f,B.bs.ob.move s (λb t=>?_) (λb t=>?_),B.bs.hb,B.bs.nb⟩,B.kn.step s n (B.kn.hs.trans h),B.fr⟩
 ·cases q:d b with
  |none=>rfl
  |some o=>
   rcases n b o q with z|z
   ·rw[B.bs.ob.none t] at z;cases z
   ·rcases B.bs.ob.at t with⟨_,y⟩|⟨_,_,_,y⟩<;>(rw[y] at z;cases z)
 ·rcases B.bs.ob.at t with⟨_,y⟩|⟨_,_,_,y⟩<;>(rw[y];exact h _ _ y)
theorem FB.set(B:FB K H0 F0 F H σ ρ L os){i:Nat}{d:D}{v:V}(e:i<ρ.length)(f:i≠2)(q:Den K F d v):FB K H0 F0 F H (σ.set i (some v)) (ρ.set i (some d)) L os:=⟨B.bs.set e f q,B.kn,B.fr⟩
def FB.ex(B:FB K H0 F0 F H σ ρ L os){e:E}{d:D}{Q:VK}(h:ev Γ e ρ=some (.val d))(k:∀v g f,Same F f->FB K H0 F0 f g σ ρ L os->Den K f d v->Q v g):tEx Γ K e σ H Q:=
 ⟨_,_,_,B.bs.ss,h,λv g f s R q=>k v g f s (B.more s R.sub R.new R.same) q⟩
theorem FB.setc(B:FB K H0 F0 F H σ ρ L os){i:D->Addr->D->Prop}{j:Es}{T d:D}{a:Addr}{E:XK}{Q:VK}(l:evs Γ j (rhoB ρ 2 os)=some [T])(m:i T a d)(n:lf d=true)(p:a∈os.map (·.1))
 (k:∀f g,FB K H0 F0 g f σ ρ L (DL.setC os a d)->Q .non f):zpm (zgs K i) [] E (tExs Γ K j) σ H Q:=
 B.bs.setc l m n p λf g q h=>k f g ⟨q,B.kn.step h.fs h.new (λb o e=>h.hs b o (B.kn.hs b o e) λt=>by rw[B.fr b t] at e;cases e),λb t=>B.fr b (setC_tr.mp t)⟩
theorem FB.add(B:FB K H0 F0 F H σ ρ L os){C:Addr}{p s l:D}{E:XK}{g:Ends}(h:PySem.W.nsIn K mainGlobals "Bound" = some (some (.ref C)))(r:ρ[3]? = some (some p))(u:ρ[4]? = some (some s))(v:ρ[5]? = some (some l))(w:os.length<sizeLine)
 (k:∀i x,FB K H0 F0 F i σ ρ L (os++[(x,[p,s,l,.non])])->g.nx σ i):
  ycl (tBM K "list" zxa (tVar 2) (zic (tMake C (zwg K) [] E (zic (tVar 3) (zic (tVar 4) (zic (tVar 5) tNil)))) tNil)) g σ H:=by
 obtain⟨j,A,G⟩:=B.bs.ss.env 3 _ r
 obtain⟨v1,I,J⟩:=B.bs.ss.env 4 _ u
 obtain⟨m,M,N⟩:=B.bs.ss.env 5 _ v
 refine⟨_,B.bs.hb,.inl ⟨rfl,_,SqL.of B.bs.ob.hL⟩,j,A,v1,I,m,M,λx n f d O=>?_⟩
 refine⟨x,C,n,j,v1,m,rfl,h,Bs,rfl,?_⟩
 have q:L≠x:=λz=>by have:=B.bs.ob.hL;rw[z,f] at this;cases this
 have P:L≠n:=λz=>by have:=B.bs.ob.hL;rw[z,d] at this;cases this
 refine⟨L,_,.ref x,rfl,rfl,by rw[Bo q,Bo q,Bo P];exact B.bs.ob.hL,by rw[Zc];exact w,?_⟩
 rw[zku];obtain⟨Q,R,S⟩:=B.bs.ob.add B.bs.ss.sub h f d O G J N rfl
 refine k _ x ⟨⟨B.bs.ss.mono (Same.refl _) R,Q,B.bs.hb,B.bs.nb⟩,⟨B.kn.fs,B.kn.new,λb o e=>S b o (B.kn.hs b o e) λz=>?_⟩,λb t=>?_⟩
 ·rw[z,B.fr L (.inl rfl)] at e;cases e
 ·rcases t with t|t
  ·exact B.fr b (.inl t)
  ·rw[Y7] at t;rcases Y0.mp t with t|t
   ·exact B.fr b (.inr t)
   ·have:=Z0.mp t
    rw[this];exact B.kn.hs.free f
end
open PySem L2 PyProof.Rows
def spBo(K:vE)(j:D->D->List (List D)->Prop):Sp:=λl H Q _=>∃F g h i,Same F H/\DenL K F [g,h] l/\j g h i /\
 ∀L e d f,Same f d->KnB H F f d->Obs K f d L e->e.map (·.2)=i->(∀b,Tr L e b->H b=none)->Q (.ref L) d
def yaf(Γ:Nat->∅)(f:D->Addr->D->Prop)(g h:D)(i:Es)(n:Nat)(j:List Addr)(l l1:List (List D)):Prop:=∃e:Nat->List (Addr×List D),(e 0).map (·.1)=j/\(e 0).map (·.2)=l/\(e n).map (·.2)=l1 /\
 ∀k,k<n->∃T a d,(∀m o p,evs Γ i (rhoB (rB g h m o p (some (.int (k:Int)))) 2 (e k))=some [T])/\f T a d/\lf d=true/\a∈(e k).map (·.1)/\e (k+1)=setC (e k) a d
def yle{l m:List (Addr×List D)}(d:l.map (·.1)=m.map (·.1))(e:l.map (·.2)=m.map (·.2)):l=m:=by
 apply Qm
 intro i;have a:=congrArg (λz=>z[i]?) d;have b:=congrArg (λz=>z[i]?) e;simp only[Zj] at a b;cases p:l[i]? with
 |none=>rw[p] at a;cases q:m[i]? with
  |none=>rfl
  |some y=>rw[q] at a;cases a
 |some x=>rw[p] at a b;cases q:m[i]? with
  |none=>rw[q] at a;cases a
  |some y=>
   rw[q] at a b;have f:x.1=y.1:=Z3 a;have g:x.2=y.2:=Z3 b;rw[show x=y from Ys f g]
def ss_sr{K:vE}{F H:Hp}{g:L2.St}{f:RhoS}(S:SS K F H g (view f))(n:∀(i:Nat) l,f[i]? ≠ some (some (.ow l))):SR K H F F H g f:=
 ⟨S.sub,Same.refl _,Same.refl _,λ_ _ e=>.inl e,λi d e=>S.env i d (by unfold view;rw[Zj,e];rfl),λi l e=>absurd e (n i l),λi j l m a e=>absurd e (n i l),by have:=S.len;unfold view at this;rwa [Zc] at this⟩
def FB.read{K:vE}{H0 F0 F H:Hp}{σ:L2.St}{ρ:Rho}{L:Addr}{os:List (Addr×List D)}(B:FB K H0 F0 F H σ ρ L os){d e:Hp}(s:Same (snap F H L os) d)(R:ER K H (snap F H L os) d e σ (rhoB ρ 2 os)):FB K H0 F0 (bare d L os) e σ ρ L os:=by
 obtain⟨f,k⟩:=B.bs.back s R
 exact⟨f,B.kn.step k.fs k.new (B.kn.hs.trans R.same),B.fr⟩
section
variable{P:Program}{w:World}{K:vE}{mg:Str->Option Value}{base:Heap}{Γ:Nat->∅}
def yan{x Y:Str}{W:Stmt}{f:Addr}{fd:FuncData}{k m:Nat}{B N:List (Str×Nat×Nat)}{Z O e3 ln:Expr}{it:It'}{le:E}{s3 sl:Es}{a1 a2 a3 b1 b2 b3 b4 b5 b6 b7 b8 b9 c1 c2 c3 c4 c5 c6 c7 c8 c9 g1 g2 g3 g4 h1 h2:Pos}{bk}{Ψ:D->Addr->D->Prop}{Ξ:D->D->List (List D)->Prop}
 (Fn:Fun K x Y W f fd)(S:FnScope NB ["one","other"] (Bj W))
 (hb:Bl W=[.Assign [.Name "bounds" a1] (.List [] a2) a3,
   .For (.Tuple [.Name "place" b1,.Name "side" b2] bk b3) Z [.Assign [.Name "least" b4] O b5,.Expr (.Call (.Attribute (.Name "bounds" b6) "append" b7) [.Call (.Name "Bound" c1) [.Name "place" c2,.Name "side" c3,.Name "least" c4] [] c5] [] b8) b9] [] c6,
   .For (.Name "k" g1) (.Call (.Name "range" g2) [ln] [] g3) [.Expr (.Call (.Name "set_closing" c7) [e3] [] c8) c9] [] g4,
   .Return (some (.Name "bounds" h1)) h2])
 (a6:(b7.endLine == b8.line)=true)(hl:∀y∈NB,(Bj W).names.lookup y=some .local)
 (ah:trI1 (trE m ⟨NB,Bj W,B,N,true⟩) ⟨NB,Bj W,B,N,true⟩ (.Tuple [.Name "place" b1,.Name "side" b2] bk b3) Z=some it)
 (ai:trE m ⟨NB,Bj W,B,N,true⟩ O=some le)(aj:∀env,swapsWith O (some (.Name "least" b4)) b5.line env=pure false)
 (ak:∀env x,foldedSetIterable Z env x=pure x)
 (am:trEs m ⟨NB,Bj W,B,N,true⟩ [e3]=some s3)(n3:Bm e3=true)(an:trEs m ⟨NB,Bj W,B,N,true⟩ [ln]=some sl)(nl:Bm ln=true)
 (hg:isGl ⟨NB,Bj W,B,N,true⟩ "set_closing" = true)(ao:isGl ⟨NB,Bj W,B,N,true⟩ "range" = true)(ap:isGl ⟨NB,Bj W,B,N,true⟩ "Bound" = true)(aq:mg "range" = none)
 (G:GSp P w K mg base k "set_closing" (zgs K Ψ))(M:MkB P w K mg base k)(hd:Deps P w K mg base (k+1) Γ B N true)
 (ar:∀h n ls,Ξ h n ls->∃g V,g.length<1000/\evI Γ it [~~~h,~~~n,none,none,none,none,none]=some (g,[~~~h,~~~n,none,none,none,none,none])/\V.length=g.length /\
   (∀(i:Nat) (d:D),g[i]? = some d->∃p s l,d=D.tup [p,s]/\V[i]? = some [p,s,l,.non]/\∀X,ev Γ le (rB h n (some p) (some s) X none)=some (.val l)) /\
   (∀x3 x4 X U,U.length=g.length->evs Γ sl (rhoB (rB h n x3 x4 X none) 2 U)=some [.int (U.length:Int)]) /\
   ∀as,as.Nodup->as.length=g.length->yaf Γ Ψ h n s3 g.length as V ls):
  FnOk P w K mg base CX0 (k+1+1) f fd ["one","other"] (spBo K Ξ):=by
 refine Fn.ok S (λvs H Q E ⟨F,h,n,ls,h1,h2,_⟩=>by rw[h2.length];rfl) (λa7 A outer s H vs Q E hr ⟨F,h,n,ls,h1,h2,h3,h4⟩=>?_);have hX:=zto (CX:=CX0) (E:=E) (outer:=outer) (H:=H) S hd hr;obtain⟨v0,ax,rfl,q0,h2⟩:=h2.inv_cons
 obtain⟨v1,ay,rfl,q1,h2⟩:=h2.inv_cons
 have:=h2.inv_nil
 subst this;obtain⟨g,V,i1,i2,i3,i4,i5,i6⟩:=ar h n ls h3
 obtain⟨C,fI,az,aA,m1,m2,m3,m4,m5⟩:=M.ex
 rw[hb];have a4:∀y∈NB,Loc (cxOf CX0 P w K mg base NB Y (Bj W) f a7 A outer s H E).nox.env.scope y:=λy hy=>.inl (hl y hy)
 have a5:∀y∈NB,Vis (cxOf CX0 P w K mg base NB Y (Bj W) f a7 A outer s H E).nox.env.scope y:=λy hy=>.inl (hl y hy)
 obtain⟨au,aB⟩:=zer hX.toXE ap
 obtain⟨av,aC⟩:=zer hX.toXE ao
 have nd:=S.nd;have aw:PI (cxOf CX0 P w K mg base NB Y (Bj W) f a7 A outer s H E).nox (.Tuple [.Name "place" b1,.Name "side" b2] bk b3) Z (λσ H R=>∃F,SR K H F F H σ [~~~h,~~~n,none,none,none,none,none]/\∀J H' F',Same F F'->SR K H F F' H' σ [~~~h,~~~n,none,none,none,none,none]->Walks K F' J g->R J H'):=
  λpins s' σ H R I ⟨F,q⟩=>(ygr hX ah i2).1 H F pins s' σ H R I ⟨F,q⟩
 refine⟨_,B9 (zfb (i:=2) nd rfl (a4 "bounds" vA) (zxq zgk) rfl (.inr (hl _ vA)))
  (B9 (zxi hX.po hX.calm aw (zxp hX.calm (zhj (ziq (i:=3) nd rfl (a4 "place" vA) (.inr (hl _ vA))) (zhj (ziq (i:=4) nd rfl (a4 "side" vA) (.inr (hl _ vA))) zpx)))
   (B9 (zfb (i:=5) nd rfl (a4 "least" vA) (zxr hX.toXE ai) (aj _) (.inr (hl _ vA)))
    (zcz (zfx (ydp Ji slot_list_append PySem.F.type_list_append ziu (zat (i:=2) rfl (a5 "bounds" vA))
     (zda (ykz (E:=E0) m3 m4 hr au m2 m5 .nil ydq (zda (zat (i:=3) rfl (a5 "place" vA)) (zda (zat (i:=4) rfl (a5 "side" vA)) (zda (zat (i:=5) rfl (a5 "least" vA)) zgk)))) zgk) rfl rfl a6 rfl rfl) rfl))) (ak _))
  (B9 (zxi hX.po hX.calm (zio av aq (pa_ex hX.toXE an) (Bu nl)) (ziq (i:=6) nd rfl (a4 "k" vA) (.inr (hl _ vA))) (zcz (zpv (k:=k) hX.toXE (hr.mono (Jo _)) am n3 hg G)))
  (zcz (zrz (zat (i:=2) rfl (a5 "bounds" vA)))))),?_⟩
 refine⟨Yr _,λL hL=>?_⟩
 have aa:F L=none:=h1.free hL;have S0:SS K F (upd H L (.lst [])) [some v0,some v1,some (.ref L),none,none,none,none] (rB h n none none none none):=by
  refine⟨λb o e=>?_,λi d e=>?_,rfl⟩
  ·rw[Bo (λz=>by rw[z,aa] at e;cases e)];exact h1 b o e
  ·match i,e with
   |0,e=>cases e;exact⟨_,rfl,q0⟩
   |1,e=>cases e;exact⟨_,rfl,q1⟩
   |2,e=>cases e
   |3,e=>cases e
   |4,e=>cases e
   |5,e=>cases e
   |6,e=>cases e
   |i+7,e=>cases e
 have B0:FB K H F F (upd H L (.lst [])) [some v0,some v1,some (.ref L),none,none,none,none] (rB h n none none none none) L []:=
  ⟨⟨S0,⟨Bs,aa,(λo ho=>by cases ho),List.nodup_nil⟩,rfl,rfl⟩,⟨Same.refl _,λ_ _ e=>.inl e,zaw hL⟩,λb t=>by
   rcases t with t|t
   ·rw[t];exact hL
   ·cases t⟩
 have R0:SR K (upd H L (.lst [])) F F (upd H L (.lst [])) [some v0,some v1,some (.ref L),none,none,none,none] [~~~h,~~~n,none,none,none,none,none]:=ss_sr S0 (λi l e=>by
  match i,e with
  |0,e=>cases e
  |1,e=>cases e
  |2,e=>cases e
  |3,e=>cases e
  |4,e=>cases e
  |5,e=>cases e
  |6,e=>cases e
  |i+7,e=>cases e)
 refine⟨F,R0,λJ H1 F1 s1 S1 wk=>?_⟩
 have B1:=B0.more s1 S1.sub S1.new S1.same;refine⟨λi m a0 H'=>m=g.length-i/\i<=g.length/\∃F2 U x3 x4 X,Same F1 F2/\FB K H F F2 H' a0 (rB h n x3 x4 X none) L U/\U.map (·.2)=V.take i,⟨_,rfl,Yr _,F1,[],none,none,none,Same.refl _,B1,rfl⟩,?_⟩
 rintro i mm a8 H2 ⟨rfl,aD,F2,U,x3,x4,X,s2,B2,ho⟩
 have ab:=wk i H2 (s2.trans B2.bs.ss.sub);by_cases ae:i<g.length
 ·have hd:=Zg ae;obtain⟨go,yl⟩:=ab.1 _ hd
  obtain⟨p,s,l,e1,e2,e3⟩:=i4 i _ hd
  refine .inr ⟨go,λa0 H'=>∃F2 U x3 x4 X,Same F1 F2/\FB K H F F2 H' a0 (rB h n x3 x4 X none) L U/\U.map (·.2)=V.take (i+1),λa0 H' z=>⟨g.length-(i+1),by omega,rfl,ae,z⟩,λx H' y=>?_⟩;obtain⟨F3,s3,B3,q3⟩:∃F3,Same F2 F3/\FB K H F F3 H' a8 (rB h n x3 x4 X none) L U/\Den K F3 g[i] x:=by
   rcases yl x H' y with⟨e,q⟩|⟨pp,xs,ds,hp,e,ex,ed,q⟩
   ·subst e;exact⟨F2,Same.refl _,B2,q.mono s2⟩
   ·subst e ex;have fp:F2 pp=none:=B2.bs.ss.sub.free hp;have sp:=zaw (o:=.tup xs) fp;refine⟨_,sp,B2.more sp (λb o e=>?_) (λb o e=>?_) (zaw hp),?_⟩
    ·by_cases z:b=pp
     ·subst z;rw[Bs] at e |-;exact e
     ·rw[Bo z] at e |-;exact B2.bs.ss.sub b o e
    ·by_cases z:b=pp
     ·subst z;exact .inr hp
     ·rw[Bo z] at e;exact .inl e
    ·rw[ed];exact Den.tup_mk (SqT.of Bs) ((q.mono s2).mono sp)
  rw[e1] at q3;obtain⟨a,xs,ex,sq,r⟩:=q3.tup
  obtain⟨u0,r0,rfl,r1,r⟩:=r.inv_cons
  obtain⟨u1,r2,rfl,r3,r⟩:=r.inv_cons
  have:=r.inv_nil
  subst this;refine⟨a,[u0,u1],ex,Same.tup B3.bs.ss.sub sq,rfl,u0,[u1],rfl,u1,[],rfl,rfl,?_⟩
  have B4:FB K H F F3 H' ((a8.set 3 (some u0)).set 4 (some u1)) (rB h n (some p) (some s) X none) L U:=(B3.set (i:=3) (by show 3<7;decide) vA r1).set (i:=4) (by show 4<7;decide) vA r3;refine B4.ex (e3 X) λv H5 F5 s5 B5 q5=>?_;have B6:FB K H F F5 H5 (((a8.set 3 (some u0)).set 4 (some u1)).set 5 (some v)) (rB h n (some p) (some s) (some l) none) L U:=B5.set (i:=5) (by show 5<7;decide) vA q5;have ln:U.length=(V.take i).length:=by rw[<-ho,Zc]
  refine B6.add m1 rfl rfl rfl ?_ λH7 x7 B7=>?_
  ·rw[ln,Wy];exact Ye (Nat.min_le_left _ _) (zwh vB)
  ·refine⟨F5,_,_,_,_,(s2.trans s3).trans s5,B7,?_⟩
   rw[Y7,ho,List.take_succ,e2];rfl
 ·have e:i=g.length:=by omega
  subst e;refine .inl ⟨ab.2 (Zl _),?_⟩;have af:U.map (·.2)=V:=by rw[ho,<-i3,Bd]
  have ln:U.length=g.length:=by rw[<-i3,<-af,Zc]
  refine⟨_,_,_,B2.bs.snap,i5 x3 x4 X U ln,λvs H3 F3 s3 R3 q3=>?_⟩
  obtain⟨u,us,rfl,r1,r⟩:=q3.inv_cons
  have:=r.inv_nil
  subst this;have:=r1.int
  subst this;refine⟨_,rfl,by omega,by omega,?_⟩
  have B3:=B2.read s3 R3;obtain⟨a9,o1,o2,o3,o4⟩:=i6 (U.map (·.1)) B2.bs.ob.nd (by rw[Zc];exact ln)
  have e0:a9 0=U:=yle o1 (o2.trans af.symm);rw[Z8,ln];refine zzi (λi a0 H'=>∃F' x6,FB K H F F' H' a0 (rB h n x3 x4 X x6) L (a9 i)) ⟨_,none,by rw[e0];exact B3⟩ (λj ag H4 hj ⟨F4,x6,B4⟩=>?_) (λag H4 ⟨F4,x6,B4⟩=>?_)
  ·obtain⟨T,a,d,t1,t2,t3,t4,t5⟩:=o4 j hj
   have B5:FB K H F F4 H4 (ag.set 6 (some (.int (0+(j:Int))))) (rB h n x3 x4 X (some (.int (j:Int)))) L (a9 j):=by
    rw[U3];exact B4.set (i:=6) (by show 6<7;decide) vA Den.int_mk
   exact B5.setc (t1 x3 x4 X) t2 t3 t4 λH6 F6 B6=>⟨F6,_,by rw[t5];exact B6⟩
  ·exact⟨_,B4.bs.hb,h4 L _ H4 F4 B4.bs.ss.sub B4.kn B4.bs.ob o3 B4.fr⟩
end
open PySem L2 PyProof.Rows
def rF(d e:D)(f:Option D)(n:Nat):Rho:=some d::some e::none::f::List.replicate n none
def rFs(d e:D)(b k:D)(n:Nat):RhoS:= ~~~d::~~~e::~~~b::~~~k::List.replicate n none
def tTail(Γ:Nat->∅)(K:vE)(g:Ss):TS:=λD h H=>∃F e w,SR K H F F H h e/\exs Γ g e=some (.rt w)/\∀v d f,RT H F f d->RW K H f d w v->D.rt v d
section
variable{X:Cx}{c:TC}{Γ:Nat->∅}
def zry(g:XC X c Γ){m:Nat}{d:List Stmt}{f:Ss}(h:trSs m c d=some f):PSs X d (tTail Γ X.K f):=λpins s i H D I ⟨F,j,w,S,e,k⟩=>
 (zvy g m).2 _ _ _ _ h e H F pins s i H D I ⟨F,S,k⟩
end
section
variable{K:vE}{H0 F0 F H:Hp}{σ:L2.St}{ρ:Rho}{L:Addr}{os:List (Addr×List D)}{Γ:Nat->∅}
def FB.leave(B:FB K H0 F0 F H σ ρ L os){g f:Hp}{w:W}{v:V}{Q:VK}(T:RT H (snap F H L os) g f)(q:RW K H g f w v)
 (k:∀v f g,Same H0 f->Same F0 g->Same g f->(∀a o,g a=some o->F0 a=some o\/H0 a=none)->RW K H0 g f w v->Q v f):Q v f:=by
 refine k v f g (B.kn.hs.trans T.same) ((B.kn.fs.trans B.bs.ob.same).trans T.base) T.sub (λa o e=>?_) ?_
 ·rcases T.new a o e with z|z
  ·by_cases t:Tr L os a
   ·exact .inr (B.fr a t)
   ·unfold snap at z;rw[if_neg t] at z;exact B.kn.new a o z
  ·exact .inr (B.kn.hs.free z)
 ·cases w with
  |val d=>exact q
  |new l=>
   obtain⟨a,h,e,i,j,m,n⟩:=q
   exact⟨a,h,e,i,B.kn.hs.free j,m,n⟩
def FB.exr(B:FB K H0 F0 F H σ ρ L os){e:E}{d:D}{Q:VK}(h:ev Γ e (rhoB ρ 2 os)=some (.val d))(i:lf d=true)
 (k:∀v f g,FB K H0 F0 g f σ ρ L os->Den K g d v->Q v f):tEx Γ K e σ H Q:=
 ⟨_,_,_,B.bs.snap,h,λv f g s R q=>k v f _ (B.read s R) (Den.shrink (ztk B.bs.ob s) d i q)⟩
def FB.exT(B:FB K H0 F0 F H σ ρ L os){e:E}{t:Bool}{Q:Bool->Hp->Prop}(h:((ev Γ e (rhoB ρ 2 os)).map W.d).bind zax=some t)
 (k:∀f g,FB K H0 F0 g f σ ρ L os->Q t f):tExT Γ K e σ H Q:=
 ⟨_,_,_,B.bs.snap,h,λf g s R=>k f _ (B.read s R)⟩
def FB.drop(B:FB K H0 F0 F H σ ρ L os){n:List (Addr×List D)->Int->List (Addr×List D)->Prop}{j:Int}{f:List (Addr×List D)}{p:E}{d:D}{r:Ends}{E:XK}(s:ρ[3]? = some (some (.int j)))(l:n os j f)(u:∀a∈f.map (·.1),a∈os.map (·.1))
 (w:ev Γ p (rhoB ρ 2 f)=some (.val d))(z:lf d=true)(k:∀g h m,FB K H0 F0 m h g (ρ.set 3 (some d)) L f->r.nx g h):
  tSeq (ycl (zpm (zgh K n) [] E (zic (tVar 2) (zic (tVar 3) tNil)))) (tAsg (tEx Γ K p) (zzf 3)) r σ H:=by
 obtain⟨v,v1,A⟩:=B.bs.ss.env 3 _ s
 have:=A.int
 subst this;refine⟨_,B.bs.hb,_,v1,F,L,os,j,f,rfl,B.bs.ss.sub,B.bs.ob,l,λC G I i O J=>?_⟩
 have M:FB K H0 F0 G C σ ρ L f:=⟨⟨B.bs.ss.mono i.fs I,J,B.bs.hb,B.bs.nb⟩,B.kn.step i.fs i.new (λb o e=>i.hs b o (B.kn.hs b o e) λt=>by rw[B.fr b t] at e;cases e),λb t=>B.fr b (t.imp id (u b))⟩;exact M.exr w z λv h m N q=>k _ h m (N.set (zze s) vA q)
def FB.start{A:D->D->List (List D)->Prop}{o p:V}{f g d:D}{n:Nat}{l:List (List D)}{B:E}{E:XK}{r:Ends}(I:Same F H)(h:DenL K F [f,g] [o,p])(s:A f g l)
 (J:∀os:List (Addr×List D),os.map (·.2)=l->(os.map (·.1)).Nodup->ev Γ B (rhoB (rF f g none n) 2 os)=some (.val d))(M:lf d=true)
 (k:∀j m t L os,os.map (·.2)=l->FB K H F t m j (rF f g (some d) n) L os->r.nx j m):
  tAsg (zpm (spBo K A) [] E (zic (tVar 0) (zic (tVar 1) tNil))) (zzf 2) {r with nx:=tAsg (tEx Γ K B) (zzf 3) r} (some o::some p::none::none::List.replicate n none) H:=by
 refine⟨_,rfl,_,rfl,F,f,g,l,I,h,s,λL os N O P u C G Q=>?_⟩
 obtain⟨X,R,w,S,h⟩:=h.inv_cons
 cases w;obtain⟨Y,R,w,T,h⟩:=h.inv_cons
 cases w;have U:FB K H F O N (some o::some p::some (.ref L)::none::List.replicate n none) (rF f g none n) L os:=by
  refine⟨⟨⟨P,λi d e=>?_,by simp[rF]⟩,C,rfl,rfl⟩,u,Q⟩
  match i,e with
  |0,e=>cases e;exact⟨_,rfl,S.mono u.fs⟩
  |1,e=>cases e;exact⟨_,rfl,T.mono u.fs⟩
  |2,e=>cases e
  |3,e=>cases e
  |i+4,e=>
   have z:(List.replicate n (none:Option D))[i]? = some (some d):=e;rw[Wl] at z;split at z<;>cases z
 exact U.exr (J os G C.nd) M λv m t W q=>k _ m t L os G (W.set (i:=3) (by simp[rF]) vA q)
def FB.tail{f g h:D}{n:Nat}{bs:Ss}{w:W}{Q:VK}{s:Ends}(B:FB K H0 F0 F H σ (rF f g (some h) n) L os)(t:exs Γ bs (rFs f g (.lst (dOs os)) h n)=some (.rt w))(p:s.rt=Q)
 (k:∀v j m,Same H0 j->Same F0 m->Same m j->(∀a o,m a=some o->F0 a=some o\/H0 a=none)->RW K H0 m j w v->Q v j):tTail Γ K bs s σ H:=by
 refine⟨snap F H L os,rFs f g (.lst (dOs os)) h n,w,ss_sr ?_ ?_,t,λv j m T q=>?_⟩
 ·have:=B.bs.snap
  have e:view (rFs f g (.lst (dOs os)) h n)=rhoB (rF f g (some h) n) 2 os:=by
   unfold view rFs rhoB rF;simp[DL.B.d]
  rw[e];exact this
 ·intro i l e;match i,e with
  |0,e=>cases e
  |1,e=>cases e
  |2,e=>cases e
  |3,e=>cases e
  |i+4,e=>
   have r:(List.replicate n (none:Option DL.B))[i]? = some (some (.ow l)):=e;rw[Wl] at r;split at r<;>cases r
 ·rw[p];exact B.leave T q k
end
open PySem L2 PyProof.Rows
def zsa{P:Program}{w:World}{K:vE}{mg:Str->Option Value}{base:Heap}{Γ:Nat->∅}{X:Cx}{c:TC}{k:Nat}{g x y:Str}{i j:Nat}{sp:Sp}{p e f h:Pos}(d:XE X c Γ)(l:Room k X.A)(m:isGl c g=true)(G:GSp X.prog X.w X.K X.mg X.base k g sp)
 (n:slot c x=some i)(o:slot c y=some j):PE X (.Call (.Name g p) [.Name x e,.Name y f] [] h) (zpm sp [] E0 (zic (tVar i) (zic (tVar j) tNil))):=by
 obtain⟨a,M,ps,q,r,s,t⟩:=G
 obtain⟨u,v⟩:=zer d m
 obtain⟨z,B,C,F⟩:=zak d n
 obtain⟨H,I,J,L⟩:=zak d o
 exact zpy (E:=E0) q l u r s t .nil ydq (zda (zat z (DL.Loc.vis B) C F) (zda (zat H (DL.Loc.vis I) J L) zgk)) v
structure Lps(Γ:Nat->∅)(Θ:List (Addr×List D)->Int->List (Addr×List D)->Prop)(d0 d1:D)(n:Nat)(ke:E)(oss:Nat->List (Addr×List D))(ks:Nat->Int)(t:Nat):Prop where
 ke:∀j,j<=t->∀x3,ev Γ ke (rhoB (rF d0 d1 x3 n) 2 (oss j))=some (.val (.int (ks j)))
 th:∀j,j<t->Θ (oss j) (ks j) (oss (j+1))
 sb:∀j,j<t->∀a∈(oss (j+1)).map (·.1),a∈(oss j).map (·.1)
section
variable{P:Program}{w:World}{K:vE}{mg:Str->Option Value}{base:Heap}{Γ:Nat->∅}
def ztl(Γ:Nat->∅)(p:D->D->List (List D)->Prop)(q:List (Addr×List D)->Int->List (Addr×List D)->Prop)(n:Nat)(m r:E)(s:Ss)(g h:D)(u:W):Prop:=
 ∃l o,p g h l/\(∀f:List (Addr×List D),f.map (·.2)=l->(f.map (·.1)).Nodup->ev Γ m (rhoB (rF g h none n) 2 f)=some (.val (.int o))) /\
 ∀f:List (Addr×List D),f.map (·.2)=l->(f.map (·.1)).Nodup->∃e i t,e 0=f/\i 0=o/\Lps Γ q g h n m e i t /\
  (∀j,j<=t->((ev Γ r (rhoB (rF g h (some (.int (i j))) n) 2 (e j))).map W.d).bind zax=some (decide (j<t))) /\
  exs Γ s (rFs g h (.lst (dOs (e t))) (.int (i t)) n)=some (.rt u)
def fit_ok{x v:Str}{g:Stmt}{f:Addr}{fd:FuncData}{k m n:Nat}{d e:List (Str×Nat×Nat)}{N:List Str}{u l z:Expr}{Z te:E}{ss:List Stmt}{bs:Ss}{a1 a2 a3 a4 a5 a6 b1 b2 c1 c2 c3 c4 c5 g1 g2 g3:Pos}{Θ:List (Addr×List D)->Int->List (Addr×List D)->Prop}{Ξ:D->D->List (List D)->Prop}{φ:∅}
 (Fn:Fun K x v g f fd)(S:FnScope N ["one","other"] (Bj g))(a0:N.length=n+4)
 (hb:Bl g = .Assign [.Name "bounds" a1] (.Call (.Name "bounds_of" a2) [.Name "one" a3,.Name "other" a4] [] a5) a6 :: .Assign [.Name "k" b1] u b2 ::
   .While z [.Expr (.Call (.Name "drop" c1) [.Name "bounds" c2,.Name "k" c3] [] c4) c5,.Assign [.Name "k" g1] l g2] [] g3::ss)
 (a7:slot ⟨N,Bj g,d,e,true⟩ "one" = some 0)(a8:slot ⟨N,Bj g,d,e,true⟩ "other" = some 1)(C:slot ⟨N,Bj g,d,e,true⟩ "bounds" = some 2)(G:slot ⟨N,Bj g,d,e,true⟩ "k" = some 3)
 (a9:trE m ⟨N,Bj g,d,e,true⟩ u=some Z)(I:trE m ⟨N,Bj g,d,e,true⟩ l=some Z)(aa:trT m ⟨N,Bj g,d,e,true⟩ z=some te)(ab:trSs m ⟨N,Bj g,d,e,true⟩ ss=some bs)
 (J:∀env,swapsWith u (some (.Name "k" b1)) b2.line env=pure false)(M:∀env,swapsWith l (some (.Name "k" g1)) g2.line env=pure false)
 (ae:isGl ⟨N,Bj g,d,e,true⟩ "bounds_of" = true)(af:isGl ⟨N,Bj g,d,e,true⟩ "drop" = true)
 (G1:GSp P w K mg base k "bounds_of" (spBo K Ξ))(G2:GSp P w K mg base k "drop" (zgh K Θ))(hd:Deps P w K mg base k Γ d e true)
 (ag:∀o p V,φ [o,p]=some V->ztl Γ Ξ Θ n Z te bs o p V):FnOk P w K mg base CX0 (k+1) f fd ["one","other"] (spD K 2 φ):=by
 refine Fn.ok S (λvs H Q E ⟨Fz,ds,w,h1,X,h3,h4,h5⟩=>by rw[X.length];exact h3) (λam A outer s H vs Q E hr ⟨F,ds,V,h1,X,h3,h4,h5⟩=>?_);have q:=zto (CX:=CX0) (E:=E) (outer:=outer) (H:=H) S hd hr;obtain⟨o,p,rfl⟩:∃o p,ds=[o,p]:=by
  match ds,h3 with
  |[o,p],_=>exact⟨o,p,rfl⟩
 obtain⟨ls,k0,r1,r2,r3⟩:=ag o p V h4
 obtain⟨v0,an,rfl,q0,t2⟩:=X.inv_cons
 obtain⟨v1,ao,rfl,q1,t3⟩:=t2.inv_cons
 have:=t3.inv_nil
 subst this;have ah:L2.start N [v0,v1]=some v0::some v1::none::none::List.replicate n none:=by
  unfold L2.start;rw[a0];show some v0::some v1::List.replicate (n+2) none=_;rw[K7,K7]
 obtain⟨ai,aj,ap,aq⟩:=zak q.toXE C
 obtain⟨O,R,ar,as⟩:=zak q.toXE G
 rw[hb];have nd:=S.nd;refine⟨_,B9 (zfb (i:=2) nd ai aj (zsa (P:=P) (w:=w) (K:=K) (mg:=mg) (base:=base) q.toXE hr ae G1 a7 a8) rfl (.inl rfl)) (B9 (zfb (i:=3) nd O R (zxr q.toXE a9) (J _) (.inl rfl))
  (B9 (zll q.po (ykt q.toXE aa) (B9 (zfx (zsa (P:=P) (w:=w) (K:=K) (mg:=mg) (base:=base) q.toXE hr af G2 C G) rfl) (zcz (zfb (i:=3) nd O R (zxr q.toXE I) (M _) (.inl rfl))))) (zry q ab))),?_⟩
 rw[ah];refine FB.start (n:=n) h1 X r1 r2 rfl λau H2 F2 L os eo B=>?_;obtain⟨T,ks,t,o1,o2,lp,ak,tl⟩:=r3 os eo B.bs.ob.nd
 subst o1 o2;refine⟨λmm r Y=>∃U j,mm=t-j/\j<=t/\FB K H F U Y r (rF o p (some (.int (ks j))) n) L (T j),⟨t,F2,0,rfl,Yr _,B⟩,?_⟩
 rintro mm av H3 ⟨F3,j,rfl,hj,B3⟩
 refine B3.exT (ak j hj) λH4 F4 B4=>?_;by_cases h:j<t
 ·rw[decide_eq_true h];refine iteT ⟨λr Y=>∃U,FB K H F U Y r (rF o p (some (.int (ks (j+1)))) n) L (T (j+1)),λr Y ⟨U,B'⟩=>⟨t-(j+1),by omega,U,j+1,rfl,h,B'⟩,?_⟩;exact B4.drop (E:=E0) rfl (lp.th j h) (lp.sb j h) (lp.ke (j+1) h _) rfl λaw H5 F5 B5=>⟨F5,B5⟩
 ·rw[decide_eq_false h];have ej:j=t:=by omega
  subst ej;exact iteF (B4.tail tl rfl h5)
end
open PySem L2 PyProof.Rows
section
variable{P:Program}{w:World}{K:vE}{mg:Str->Option Value}{base:Heap}{Γ:Nat->∅}
def zmw(Γ:Nat->∅)(q:D->D->List (List D)->Prop)(r:List (Addr×List D)->Int->List (Addr×List D)->Prop)(n:Nat)(m s ee:E)(u:Ss)(g h:D)(o:W):Prop:=
 ∃l p,q g h l/\(∀f:List (Addr×List D),f.map (·.2)=l->(f.map (·.1)).Nodup->ev Γ m (rhoB (rF g h none n) 2 f)=some (.val (.int p))) /\
 ∀f:List (Addr×List D),f.map (·.2)=l->(f.map (·.1)).Nodup->∃e i t fin,e 0=f/\i 0=p/\Lps Γ r g h n m e i t /\
  (∀j,j<=t->((ev Γ s (rhoB (rF g h (some (.int (i j))) n) 2 (e j))).map W.d).bind zax=some (decide (j<t) || fin)) /\
  (∀j,j<=t->(j<t\/fin=true)->((ev Γ ee (rhoB (rF g h (some (.int (i j))) n) 2 (e j))).map W.d).bind zax=some (!decide (j<t))) /\
  (if fin=true then o=.new [] else exs Γ u (rFs g h (.lst (dOs (e t))) (.int (i t)) n)=some (.rt o))
def zxc{x I:Str}{h:Stmt}{f:Addr}{fd:FuncData}{k m n:Nat}{d e:List (Str×Nat×Nat)}{N:List Str}{C o J M:Expr}{ke te ee:E}{ss:List Stmt}{bs:Ss}{a1 a2 a3 a4 a5 a6 b1 b2 c1 c2 c3 c4 c5 g1 g2 g3 i1 i2 i3:Pos}{Θ:List (Addr×List D)->Int->List (Addr×List D)->Prop}{Ξ:D->D->List (List D)->Prop}{φ:∅}
 (Fn:Fun K x I h f fd)(S:FnScope N ["one","other"] (Bj h))(a7:N.length=n+4)
 (hb:Bl h = .Assign [.Name "bounds" a1] (.Call (.Name "bounds_of" a2) [.Name "one" a3,.Name "other" a4] [] a5) a6 :: .Assign [.Name "k" b1] C b2 ::
   .While J [.If M [.Return (some (.List [] i1)) i2] [] i3,.Expr (.Call (.Name "drop" c1) [.Name "bounds" c2,.Name "k" c3] [] c4) c5,.Assign [.Name "k" g1] o g2] [] g3::ss)
 (a8:slot ⟨N,Bj h,d,e,true⟩ "one" = some 0)(a9:slot ⟨N,Bj h,d,e,true⟩ "other" = some 1)(O:slot ⟨N,Bj h,d,e,true⟩ "bounds" = some 2)(R:slot ⟨N,Bj h,d,e,true⟩ "k" = some 3)
 (aa:trE m ⟨N,Bj h,d,e,true⟩ C=some ke)(T:trE m ⟨N,Bj h,d,e,true⟩ o=some ke)(ab:trT m ⟨N,Bj h,d,e,true⟩ J=some te)(ae:trT m ⟨N,Bj h,d,e,true⟩ M=some ee)(af:trSs m ⟨N,Bj h,d,e,true⟩ ss=some bs)
 (U:∀env,swapsWith C (some (.Name "k" b1)) b2.line env=pure false)(V:∀env,swapsWith o (some (.Name "k" g1)) g2.line env=pure false)
 (ag:isGl ⟨N,Bj h,d,e,true⟩ "bounds_of" = true)(ah:isGl ⟨N,Bj h,d,e,true⟩ "drop" = true)
 (G1:GSp P w K mg base k "bounds_of" (spBo K Ξ))(G2:GSp P w K mg base k "drop" (zgh K Θ))(hd:Deps P w K mg base k Γ d e true)
 (ai:∀q r wv,φ [q,r]=some wv->zmw Γ Ξ Θ n ke te ee bs q r wv):FnOk P w K mg base CX0 (k+1) f fd ["one","other"] (spD K 2 φ):=by
 refine Fn.ok S (λvs H Q E ⟨Fz,ds,w,h1,h2,h3,h4,h5⟩=>by rw[h2.length];exact h3) (λap A outer s H vs Q E hr ⟨F,ds,wv,h1,h2,h3,h4,h5⟩=>?_);have u:=zto (CX:=CX0) (E:=E) (outer:=outer) (H:=H) S hd hr;obtain⟨q,r,rfl⟩:∃q r,ds=[q,r]:=by
  match ds,h3 with
  |[q,r],_=>exact⟨q,r,rfl⟩
 obtain⟨ls,k0,r1,r2,r3⟩:=ai q r wv h4
 obtain⟨v0,aq,rfl,q0,t2⟩:=h2.inv_cons
 obtain⟨v1,ar,rfl,q1,t3⟩:=t2.inv_cons
 have:=t3.inv_nil
 subst this;have aj:L2.start N [v0,v1]=some v0::some v1::none::none::List.replicate n none:=by
  unfold L2.start;rw[a7];show some v0::some v1::List.replicate (n+2) none=_;rw[K7,K7]
 obtain⟨ak,am,as,au⟩:=zak u.toXE O
 obtain⟨X,Y,av,aw⟩:=zak u.toXE R
 rw[hb];have nd:=S.nd;refine⟨_,B9 (zfb (i:=2) nd ak am (zsa (P:=P) (w:=w) (K:=K) (mg:=mg) (base:=base) u.toXE hr ag G1 a8 a9) rfl (.inl rfl)) (B9 (zfb (i:=3) nd X Y (zxr u.toXE aa) (U _) (.inl rfl))
  (B9 (zll u.po (ykt u.toXE ab) (B9 (ykv (ykt u.toXE ae) (zcz (zrz (zxq zgk))) zxg) (B9 (zfx (zsa (P:=P) (w:=w) (K:=K) (mg:=mg) (base:=base) u.toXE hr ah G2 O R) rfl) (zcz (zfb (i:=3) nd X Y (zxr u.toXE T) (V _) (.inl rfl)))))) (zry u af))),?_⟩
 rw[aj];refine FB.start (n:=n) h1 h2 r1 r2 rfl λax H2 F2 L os eo B=>?_;obtain⟨Z,ks,t,an,o1,o2,lp,ao,a0,tl⟩:=r3 os eo B.bs.ob.nd
 subst o1 o2;refine⟨λmm l G=>∃F' j,mm=t-j/\j<=t/\FB K H F F' G l (rF q r (some (.int (ks j))) n) L (Z j),⟨t,F2,0,rfl,Yr _,B⟩,?_⟩
 rintro mm ay H3 ⟨F3,j,rfl,hj,B3⟩
 refine B3.exT (ao j hj) λH4 F4 B4=>?_;by_cases g:j<t
 ·rw[decide_eq_true g,Bool.true_or];refine iteT ⟨λl G=>∃F',FB K H F F' G l (rF q r (some (.int (ks (j+1)))) n) L (Z (j+1)),λl G ⟨F',B'⟩=>⟨t-(j+1),by omega,F',j+1,rfl,g,B'⟩,?_⟩;refine B4.exT (a0 j hj (.inl g)) λH5 F5 v=>?_;rw[decide_eq_true g];refine iteF ?_;exact v.drop (E:=E0) rfl (lp.th j g) (lp.sb j g) (lp.ke (j+1) g _) rfl λaz H6 F6 B6=>⟨F6,B6⟩
 ·have ej:j=t:=by omega
  subst ej;rw[decide_eq_false g,Bool.false_or];cases an with
  |true=>
   refine iteT ⟨λl G=>False,λl G z=>z.elim,?_⟩;refine B4.exT (a0 j hj (.inr rfl)) λH5 F5 v=>?_;rw[decide_eq_false g];refine iteT ?_;rw[if_pos rfl] at tl;subst tl;refine⟨Yr _,λp hp=>?_⟩
   have fp:F5 p=none:=v.bs.ss.sub.free hp;exact h5 _ _ F5 (v.kn.hs.trans (zaw hp)) v.kn.fs (v.bs.ss.sub.trans (zaw hp)) v.kn.new ⟨p,[],rfl,fp,v.kn.hs.free hp,Bs,DenL.nil⟩
  |false=>
   rw[if_neg vA] at tl;exact iteF (B4.tail tl rfl h5)
end
open PySem L2 PyProof.Rows
section
variable{P:Program}{w:World}{K:vE}{mg:Str->Option Value}{base:Heap}{Γ:Nat->∅}
def zso{h:Heap}{x:Str}{d:Stmt}{e:List Str}{k:Nat}{sp:Sp}(A:At K x d)(X:K.In h)(G:h.Ns mainGlobals mg)(B:Bnd x d e)(F:∀f g,Fun K x x d f g->FnOk P w K mg base CX0 k f g e sp):GSp P w K mg base k x sp:=by
 obtain⟨f,p,q,kV,m,r,s,n,t,o,a,l,c,i⟩:=A
 have j:=zsp (st:=d) l c i;exact⟨f,_,e,F _ _ j,Uc X G a,i,j.binds B⟩
def zzd{h:Heap}{x:Str}{d:Stmt}{e:List Str}{k n:Nat}{g:∅}(A:At K x d)(X:K.In h)(G:h.Ns mainGlobals mg)(B:Bnd x d e)(F:∀f i,Fun K x x d f i->FnOk P w K mg base CX0 k f i e (spD K n g)):GFn P w K mg base k x n g:=zso A X G B F
def SetSh(f:Stmt)(c:TC)(m:Nat)(g:Ss)(h:E)(i:Nat):Prop:=∃e mid d j l n,Bl f=e++[.Assign [.Attribute (.Name mid j) "closing" l] d n]/\trSs m c e=some g/\trE m c d=some h/\slot c mid=some i/\zdr d=false
def ymo{h:Heap}{x p:Str}{g:Stmt}{N:List Str}{k m o:Nat}{i j:List (Str×Nat×Nat)}{q:Ss}{r:E}{s:D->Addr->D->Prop}(A:At K x g)(X:K.In h)(G:h.Ns mainGlobals mg)(S:FnScope N [p] (Bj g))(B:Bnd x g [p])
 (t:SetSh g ⟨N,Bj g,i,j,true⟩ m q r o)(u:Deps P w K mg base k Γ i j true)
 (n:∀T a d,s T a d->∃e l,exs Γ q ([~~~T]++List.replicate (N.length-1) none)=some (.nx e)/\(view e)[o]? = some (some (.obj a l))/\ev Γ r (view e)=some (.val d)):GSp P w K mg base (k+1) x (zgs K s):=by
 obtain⟨L,mid,value,M,O,Q,v,z,C,F,H⟩:=t
 exact zso A X G B λf R I=>set_ok I S v z C F (λJ=>zfc H) u n
def yio(d:Stmt):Prop:=∃e f g h i j l m n o p q r s t u v,Bl d=[.Assign [.Attribute (.Name "self" e) "place" f] (.Name "place" g) h,.Assign [.Attribute (.Name "self" i) "side" j] (.Name "side" l) m,.Assign [.Attribute (.Name "self" n) "least" o] (.Name "least" p) q,.Assign [.Attribute (.Name "self" r) "closing" s] (.Constant .none v t) u]
def AtC(K:vE)(e:Stmt):Prop:=∃(C f:Addr) (i:Value) (j:Option Addr) (kV g l:Value) (m:Option Addr) (d n:Value) (h:Array (Option Value)),PySem.W.nsIn K mainGlobals "Bound" = some (some (.ref C))/\Cls K C/\(NoAttr K C "place" /\ NoAttr K C "side" /\ NoAttr K C "least" /\ NoAttr K C "closing")/\Mk K C f /\
 K.lookup f=some ⟨i,j,.func (PySem.W.fnOf "__init__" "Bound.__init__" (zbm e) (Bl e) (Bj e) .none kV g l m d n),h⟩/\PySem.W.codeIn K d "Bound.__init__" = true/\PySem.W.keepIn K (.ref f)=true
def AtC.bf{e:Stmt}(A:AtC K e):BFacts K:=by
 obtain⟨C,f,n,o,kV,h,p,q,i,r,j,l,m,⟨s,t,u,v⟩,_⟩:=A
 refine⟨C,l,m,λg d=>?_⟩
 simp only[flds,Zh,Zr,or_false] at d;rcases d with rfl|rfl|rfl|rfl<;>assumption
def mkb_at{h:Heap}{d:Stmt}{k:Nat}(A:AtC K d)(X:K.In h)(G:h.Ns mainGlobals mg)(S:FnScope ["self","place","side","least"] ["self","place","side","least"] (Bj d))
 (B:∀(kV g l:Value) (m:Option Addr) (i ct:Value) (j:List Value),j.length=4->bindArgs (PySem.W.fnOf "__init__" "Bound.__init__" (zbm d) (Bl d) (Bj d) .none kV g l m i ct) ⟨j,[]⟩=pure ((["self","place","side","least"]:List Str).zip j))
 (p:yio d)(q:∀y∈(["self","place","side","least"]:List Str),(Bj d).names.lookup y=some .local):MkB P w K mg base (k+1):=by
 have bf:=A.bf;obtain⟨C,f,z,D,kV,g,l,m,i,ct,r,n,E,F,s,t,u,v⟩:=A
 obtain⟨H,I,J,L,M,N,O,Q,R,T,U,V,Y,Z,d3,d4,kn,e⟩:=p
 have o:=zsp (st:=d) t u v;exact⟨C,f,_,_,n,Uc X G n,s,ymn (k:=k) o S e q bf,o.binds B⟩
def yip(h:Stmt)(c:TC)(m:Nat)(i j:Es):Prop:=∃d e p l n o f g q r s t u,Bl h=[.Expr (.Call (.Attribute (.Name "bounds" p) "pop" f) [.Name "k" l] [] g) q,.Expr (.Call (.Name "set_closing" n) [d] [] r) t,.Expr (.Call (.Name "set_closing" o) [e] [] s) u] /\
 (f.endLine == g.line)=true/\trEs m c [d]=some i/\trEs m c [e]=some j/\Bm d=true/\Bm e=true/\isGl c "set_closing" = true
def BoSh(p:Stmt)(c:TC)(m:Nat)(q:It')(r:E)(s t:Es):Prop:=∃e d f g u v w h i j z A B l n C D F G H I J K L M N O g3 P Q R o,Bl p=[.Assign [.Name "bounds" u] (.List [] v) w,
   .For (.Tuple [.Name "place" h,.Name "side" i] o j) e [.Assign [.Name "least" z] d A,.Expr (.Call (.Attribute (.Name "bounds" B) "append" l) [.Call (.Name "Bound" D) [.Name "place" F,.Name "side" G,.Name "least" H] [] I] [] n) C] [] J,
   .For (.Name "k" N) (.Call (.Name "range" O) [g] [] g3) [.Expr (.Call (.Name "set_closing" K) [f] [] L) M] [] P,
   .Return (some (.Name "bounds" Q)) R]/\(l.endLine == n.line)=true/\trI1 (trE m c) c (.Tuple [.Name "place" h,.Name "side" i] o j) e=some q/\trE m c d=some r/\zdr d=false/\zys e=false/\trEs m c [f]=some s/\Bm f=true/\trEs m c [g]=some t/\Bm g=true /\
   isGl c "set_closing" = true/\isGl c "range" = true/\isGl c "Bound" = true
def FitSh(i:Stmt)(c:TC)(m:Nat)(g j:E)(l:Ss):Prop:=∃e d f h n o p q r s t u v w z A B C D g3,Bl i = .Assign [.Name "bounds" n] (.Call (.Name "bounds_of" o) [.Name "one" p,.Name "other" q] [] r) s :: .Assign [.Name "k" t] e u ::
   .While f [.Expr (.Call (.Name "drop" v) [.Name "bounds" w,.Name "k" z] [] A) B,.Assign [.Name "k" C] d D] [] g3::h/\slot c "one" = some 0/\slot c "other" = some 1/\slot c "bounds" = some 2/\slot c "k" = some 3/\trE m c e=some g/\trE m c d=some g/\trT m c f=some j/\trSs m c h=some l/\zdr e=false/\zdr d=false/\isGl c "bounds_of" = true/\isGl c "drop" = true
def yex{h:Heap}{x:Str}{e:Stmt}{k m:Nat}{i j:List (Str×Nat×Nat)}{v z:Es}{r:D->Addr->D->Prop}{C:List (Addr×List D)->Int->List (Addr×List D)->Prop}(A:At K x e)(X:K.In h)(G:h.Ns mainGlobals mg)(S:FnScope ["bounds","k"] ["bounds","k"] (Bj e))(B:Bnd x e ["bounds","k"])
 (H:∀y∈(["bounds","k"]:List Str),(Bj e).names.lookup y=some .local)(I:yip e ⟨["bounds","k"],Bj e,i,j,true⟩ m v z)(J:GSp P w K mg base k "set_closing" (zgs K r))(L:Deps P w K mg base k Γ i j true)
 (s:∀d g l,C d g l -> -(2^63)<=g/\g<2^63/\∃n E o q F t u,seqIndex? g d.length=some n/\n<d.length /\
   evs Γ v [some (.lst (dOs (d.eraseIdx n))),some (.int g)]=some [E]/\r E o q/\lf q=true/\o∈(d.eraseIdx n).map (·.1) /\
   evs Γ z [some (.lst (dOs (setC (d.eraseIdx n) o q))),some (.int g)]=some [F]/\r F t u/\lf u=true/\t∈(d.eraseIdx n).map (·.1)/\l=setC (setC (d.eraseIdx n) o q) t u):GSp P w K mg base (k+1) x (zgh K C):=by
 obtain⟨W,Y,p,Z,p2,p3,ap,cp,ep,c1,c2,q1,q2,M,N,O,Q,R,T,U⟩:=I
 exact zso A X G B λf fd V=>yno V S M N H O Q R T U J L s
def gbo_at{h:Heap}{x:Str}{j:Stmt}{k m:Nat}{q r:List (Str×Nat×Nat)}{O:It'}{Q:E}{R T:Es}{U:D->Addr->D->Prop}{V:D->D->List (List D)->Prop}(A:At K x j)(X:K.In h)(G:h.Ns mainGlobals mg)(S:FnScope NB ["one","other"] (Bj j))(B:Bnd x j ["one","other"])
 (Y:∀y∈NB,(Bj j).names.lookup y=some .local)(Z:BoSh j ⟨NB,Bj j,q,r,true⟩ m O Q R T)(u:mg "range" = none)(Gs:GSp P w K mg base k "set_closing" (zgs K U))(M:MkB P w K mg base k)(hd:Deps P w K mg base (k+1) Γ q r true)
 (v:∀n o W,V n o W->∃e g,e.length<1000/\evI Γ O [~~~n,~~~o,none,none,none,none,none]=some (e,[~~~n,~~~o,none,none,none,none,none])/\g.length=e.length /\
   (∀(i:Nat) (d:D),e[i]? = some d->∃p s l,d=D.tup [p,s]/\g[i]? = some [p,s,l,.non]/\∀z,ev Γ Q (rB n o (some p) (some s) z none)=some (.val l)) /\
   (∀x3 x4 z C,C.length=e.length->evs Γ T (rhoB (rB n o x3 x4 z none) 2 C)=some [.int (C.length:Int)]) /\
   ∀F,F.Nodup->F.length=e.length->yaf Γ U n o R e.length F g W):GSp P w K mg base (k+1+1) x (spBo K V):=by
 obtain⟨iter,t,e3,ln,a1,a2,a3,b1,b2,b3,b4,b5,b6,b7,b8,b9,c1,c2,c3,c4,c5,c6,c7,c8,c9,g1,g2,g3,g4,h1,h2,bk,q1,q2,q3,q4,q5,q6,q7,q8,q9,H,I,J,L⟩:=Z
 exact zso A X G B λf fd Fn=>yan Fn S q1 q2 Y q3 q4 (λN=>zfc q5) (λN x=>ylr q6 x) q7 q8 q9 H I J L u Gs M hd v
def ymq{h:Heap}{x:Str}{d:Stmt}{N:List Str}{k m n:Nat}{e g:List (Str×Nat×Nat)}{s t:E}{u:Ss}{v:List (Addr×List D)->Int->List (Addr×List D)->Prop}{z:D->D->List (List D)->Prop}{C:∅}(A:At K x d)(X:K.In h)(G:h.Ns mainGlobals mg)(S:FnScope N ["one","other"] (Bj d))(i:N.length=n+4)(B:Bnd x d ["one","other"])
 (L:FitSh d ⟨N,Bj d,e,g,true⟩ m s t u)(M:GSp P w K mg base k "bounds_of" (spBo K z))(O:GSp P w K mg base k "drop" (zgh K v))(Q:Deps P w K mg base k Γ e g true)
 (j:∀F H I,C [F,H]=some I->ztl Γ z v n s t u F H I):GFn P w K mg base (k+1) x 2 C:=by
 obtain⟨R,J,T,ss,a1,a2,a3,a4,a5,a6,b1,b2,c1,c2,c3,c4,c5,g1,g2,g3,U,V,Y,Z,q5,q6,q7,q8,q9,l,o,p,q⟩:=L
 exact zzd A X G B λf fd Fn=>fit_ok Fn S i U V Y Z q5 q6 q7 q8 q9 (λr=>zfc l) (λr=>zfc o) p q M O Q j
end
open PySem L2 PyProof.Rows
section
variable{P:Program}{w:World}{K:vE}{mg:Str->Option Value}{base:Heap}{Γ:Nat->∅}
def yim(j:Stmt)(c:TC)(m:Nat)(h l ee:E)(n:Ss):Prop:=∃e d f g i o p q r s t u v w z A B C D F g3 G H I,Bl j = .Assign [.Name "bounds" o] (.Call (.Name "bounds_of" p) [.Name "one" q,.Name "other" r] [] s) t :: .Assign [.Name "k" u] e v ::
   .While f [.If g [.Return (some (.List [] G)) H] [] I,.Expr (.Call (.Name "drop" w) [.Name "bounds" z,.Name "k" A] [] B) C,.Assign [.Name "k" D] d F] [] g3::i/\slot c "one" = some 0/\slot c "other" = some 1/\slot c "bounds" = some 2/\slot c "k" = some 3/\trE m c e=some h/\trE m c d=some h/\trT m c f=some l/\trT m c g=some ee/\trSs m c i=some n/\zdr e=false/\zdr d=false/\isGl c "bounds_of" = true/\isGl c "drop" = true
def yeu{h:Heap}{x:Str}{d:Stmt}{N:List Str}{k m n:Nat}{e g:List (Str×Nat×Nat)}{t u ee:E}{v:Ss}{z:List (Addr×List D)->Int->List (Addr×List D)->Prop}{C:D->D->List (List D)->Prop}{F:∅}(A:At K x d)(X:K.In h)(G:h.Ns mainGlobals mg)(S:FnScope N ["one","other"] (Bj d))(i:N.length=n+4)(B:Bnd x d ["one","other"])
 (M:yim d ⟨N,Bj d,e,g,true⟩ m t u ee v)(O:GSp P w K mg base k "bounds_of" (spBo K C))(Q:GSp P w K mg base k "drop" (zgh K z))(R:Deps P w K mg base k Γ e g true)
 (j:∀H I J,F [H,I]=some J->zmw Γ C z n t u ee v H I J):GFn P w K mg base (k+1) x 2 F:=by
 obtain⟨T,L,U,V,ss,a1,a2,a3,a4,a5,a6,b1,b2,c1,c2,c3,c4,c5,g1,g2,g3,i1,i2,i3,Y,Z,q3,q4,q5,q6,q7,q8,q9,l,o,p,q,r⟩:=M
 exact zzd A X G B λf fd Fn=>zxc Fn S i Y Z q3 q4 q5 q6 q7 q8 q9 l (λs=>zfc o) (λs=>zfc p) q r O Q R j
end
end DL
namespace DL
open Sf
def fr(x:Rat):D:=.tup [.int x.num,.int (x.den:Int)]
def ixf0{z:Rat}:ixD (fr z) (.int 0)=some (.int z.num):=rfl
def ixf1{z:Rat}:ixD (fr z) (.int 1)=some (.int (z.den:Int)):=rfl
def lff{z:Rat}:lf (fr z)=true:=rfl
local macro_rules | `(tactic| walk_at "evh")=>do
 let l ← ("run_eq ymw yfc ycj yci ex_asg asgO_s ex_unp unpO_s ex_par parO_s ex_ret retO_s ymz ykm ykl ex_iff iffO_t iffO_f ex_whl ex_frr forO_s ynl yka yjz yjy zuu ykg yfe ynn ylb ylc evB_eq ev_var ev_int ev_bl ev_non ev_bin ev_neg ev_cmp ev_and ev_or ev_not ev_tup ev_lst ev_ix ev_sl ynf ev_bi ev_isx isxW_n ymx ex_app appO_s ymy yju ev_fm zne blkR id_eq yat yas zck setE_0 setE_s yne ynd ynh zsv yfd seqB_l seqB_t seqB_o seqD zzm zsu ync ynb evd evb bin2_s un1_s andO_t andO_f orO_t orO_f appL_s ynu slO_s cmpW ixW negW notW_s tupW lstW varD_0 varD_s ybq zvo ygx ygw yga zti zeu ypd ype ypc after lfW lf lfL Wd_v Wd_n Wb_v Wb_n Bd_s Bd_o DL.op_add DL.op_sub DL.op_mul DL.op_fdiv DL.op_mod zap zmd zes zac op_p4 op_p5 op_p6 op_p9 op_p10 op_p18 eqL eqD dOkL dOk beq_self_eq_true Bool.and_self op_p30 op_p60 op_p64 Int.reduceEq Int.reduceLT Int.reduceLE Int.reduceNeg Int.reduceAdd Int.reduceSub Int.reduceMul Int.reduceToNat Int.reducePow Int.reduceMod Int.reduceDiv cs0 cs1 cs2 cs3 cs4 cs5 cs6 cs7 cs8 cs9 cs10 cs11 cs12 Nat.reduceSub cm_lt cm_le cm_gt cm_ge cm_eq cm_ne cm_eqB cm_neB cm_eqT cm_neT cm_eqL cm_neL cm_in yig cm_isN yoe biW lenW absW minW maxW ixD_t ixD_l ixf0 ixf1 lff slD_l ynt zzy isTy zol Zx W7 List.cons_append List.nil_append Jb Zv Ko Qr Wm List.set_cons_zero List.set_cons_succ Wi Option.map_none Z9 Uw List.replicate if_true if_false Nat.reduceAdd Nat.reduceLT Nat.reduceLeDiff Wb reduceCtorEq decide_true decide_false Bool.not_true Bool.not_false Bool.and_true Bool.true_and Bool.and_false Bool.false_and ne_eq not_false_eq_true and_self and_true true_and Nat.reduceEqDiff Nat.zero_ne_one Nat.one_ne_zero sl0 sl1 sl2 sl3 sl4 sl5 sl6 sl7 sl8 sl9 at1_0 at2_0 at2_1 at3_0 at3_1 at3_2 at4_0 at4_1 at4_2 at4_3 at5_0 at5_1 at5_2 at5_3 at5_4 at6_0 at6_1 at6_2 at6_3 at6_4 at6_5 ev_fld fldO_s ev_ife ynk yng zipO sqD ev_idx yni evW_range1".splitOn " ").toArray.mapM λs=>`(Lean.Parser.Tactic.simpLemma| $(Lean.mkIdent s.toName):term)
 `(tactic| simp only[$l,*, *])
open Sf
def dTup:D->Option (List D)
 |.tup l=>some l
 |_=>none
def dTwo:List D->Option (D×D)
 |[a,b]=>some (a,b)
 |_=>none
def dTup_s{d:D}{l:List D}(h:dTup d=some l):d=.tup l:=by cases d<;>first|(cases h;rfl)|(cases h;done)
def dTwo_s{l:List D}{p:D×D}(h:dTwo l=some p):l=[p.1,p.2]:=by
 cases l with
 |nil=>cases h
 |cons a l=>
  cases l with
  |nil=>cases h
  |cons b l=>
   cases l with
   |nil=>cases h;rfl
   |cons _ _=>cases h
def asFr(d:D):Option Rat:=(dTup d).bind λl=>(dTwo l).bind λz=>(dInt z.1).bind λp=>(dInt z.2).bind λq=>if 0<q/\Int.gcd p q=1 then some (Rat.divInt p q) else none
def yov(x:Rat):asFr (fr x)=some x:=by
 have f:=zdc x;show(if 0<(x.den:Int)/\Int.gcd x.num (x.den:Int)=1 then some (Rat.divInt x.num (x.den:Int)) else none)=some x;rw[if_pos ⟨f.pos,f.co⟩,Ym]
def zpc{d:D}{x:Rat}(h:asFr d=some x):d=fr x:=by
 obtain⟨l,e,h⟩:=Za.mp h
 obtain⟨z,f,h⟩:=Za.mp h
 obtain⟨p,g,h⟩:=Za.mp h
 obtain⟨q,i,h⟩:=Za.mp h
 split at h
 ·rename_i y;cases h;obtain⟨a,b⟩:=rat_of ⟨y.1,y.2⟩
  rw[dTup_s e,dTwo_s f,zds g,zds i];unfold fr;rw[a,b]
 ·cases h
def okR(x:Rat):Bool:=decide (x.num.natAbs<2^4400) && decide (x.den<2^4400)
def yhj{n:Nat}{x:Rat}(h:Sz n x)(k:n<=4400):okR x=true:=by
 have:=h.mono k
 unfold okR;rw[Zk];exact⟨decide_eq_true this.t,decide_eq_true this.b⟩
def yhi{x:Rat}(h:okR x=true):Sz 4400 x:=by
 unfold okR at h;rw[Zk] at h;exact⟨of_decide_eq_true h.1,of_decide_eq_true h.2⟩
def Br{a b:Int}{m n:Nat}(d:a.natAbs<2^m)(e:b.natAbs<2^n)(f:m<=16000)(g:n<=16000):Bw a b=true:=by
 unfold Bw;rw[Zk];exact⟨decide_eq_true (Ze d (Bn f)),decide_eq_true (Ze e (Bn g))⟩
def zbr{b:Int}{n:Nat}(d:b≠0)(e:b.natAbs<2^n)(f:n<=9000):zbt b=true:=by
 unfold zbt;rw[Zk];exact⟨decide_eq_true d,decide_eq_true (Ze e (Bn f))⟩
section
variable{Γ:Nat->∅}
def zaa:∅
 |[.int a,.int b]=>some (.val (.int (gc a b)))
 |_=>none
def zvn(a b:Option B):∀(m:Nat) (n:Nat),n<=m->∀(g:Int) (r:Option B),0<=g->∃f,zay (evB Γ (.cmp .ne (.var 3) (.int 0))) (exs Γ #v[.asg 4 (.bin .mod (.var 2) (.var 3)),.asg 2 (.var 3),.asg 3 (.var 4)]) (m+1)
  [a,b,~~~.int g,~~~.int (n:Int),r]=some (.nx [a,b,~~~.int (gc g n),~~~.int 0,f]):=by
 intro m;induction m with
 |zero=>
  intro n i g r h;obtain rfl:n=0:=by omega
  refine⟨r,?_⟩
  unfold zay;walk_at "evh"
  simp[zly h]
 |succ m j=>
  intro n i g r h;unfold zay;walk_at "evh"
  by_cases o:n=0
  ·subst o;refine⟨r,?_⟩
   simp[zly h]
  ·have d:¬((n:Int)=0):=by omega
   simp only[d,decide_false,Bool.not_false,if_false];walk_at "evh"
   have e:g.fmod (n:Int)=((g%(n:Int)).toNat:Int):=by
    rw[Q6 _ vB];have:=Qc g d
    omega
   have l:(g%(n:Int)).toNat<=m:=by
    have:=Ks g (show(0:Int)<n by omega)
    have:=Qc g d
    omega
   obtain⟨f,q⟩:=j _ l (n:Int) (~~~.int ((g%(n:Int)).toNat:Int)) vB
   refine⟨f,?_⟩
   rw[e,q];have p:(((g%(n:Int)).toNat:Nat):Int)=g%n:=by have:=Qc g d;omega
   rw[p,zqj]
def zhs(b:Int):(if b<0 then -b else b)=((b.natAbs:Nat):Int):=by split<;>omega
def ok_divisor:∀d w,d.length=2->zaa d=some w->run Γ zjo 5 d=some w:=by
 intro d w _ h;unfold zaa at h;split at h
 ·rename_i a b _;cases h;unfold zjo;walk_at "evh"
  obtain⟨e,q⟩:=zvn (Γ:=Γ) (~~~.int a) (~~~.int b) b.natAbs b.natAbs (Zl _) (if a<0 then -a else a) none (by split<;>omega)
  rw[zhs b,zhu q];walk_at "evh"
  rw[<-zhs b,yhr]
 ·cases h
def zkr:∀(m:Nat) (n:Nat),n<=m->∀(g:Int),0<=g->zay (evB Γ (.cmp .gt (.var 1) (.int 0))) (exs Γ #v[.par 0 1 (.var 1) (.bin .mod (.var 0) (.var 1))]) (m+1)
  [~~~.int g,~~~.int (n:Int)]=some (.nx [~~~.int (gc g n),~~~.int 0]):=by
 intro m;induction m with
 |zero=>
  intro n i g f;obtain rfl:n=0:=by omega
  unfold zay;walk_at "evh"
  simp[zly f]
 |succ m j=>
  intro n i g f;unfold zay;walk_at "evh"
  by_cases o:n=0
  ·subst o;simp[zly f]
  ·have d:¬((n:Int)=0):=by omega
   have p:(0:Int)<n:=by omega
   simp only[d,p,decide_true,if_false];walk_at "evh"
   have e:g.fmod (n:Int)=((g%(n:Int)).toNat:Int):=by
    rw[Q6 _ vB];have:=Qc g d
    omega
   have l:(g%(n:Int)).toNat<=m:=by
    have:=Ks g (show(0:Int)<n by omega)
    have:=Qc g d
    omega
   have q:=j _ l (n:Int) vB;have h:(((g%(n:Int)).toNat:Nat):Int)=g%n:=by have:=Qc g d;omega
   rw[h] at q;first
    |(rw[e,h,q,zqj])
    |(rw[q,zqj])
def ok_law_divisor:∀d w,d.length=2->zaa d=some w->run Γ zdh 2 d=some w:=by
 intro d w _ h;unfold zaa at h;split at h
 ·rename_i a b _;cases h;unfold zdh;walk_at "evh"
  have q:=zkr (Γ:=Γ) b.natAbs b.natAbs (Zl _) (if a<0 then -a else a) (by split<;>omega);rw[zhs b,zhu q];walk_at "evh"
  rw[<-zhs b,yhr]
 ·cases h
end
set_option exponentiation.threshold 20000
open Sf
def zbp{a b:Int}:zaa [.int a,.int b]=some (.val (.int (gc a b))):=rfl
section
variable{Γ:Nat->∅}
def zcs:∅
 |[.int t,.int b]=>if b≠0/\b.natAbs<2^9000 then some (.val (fr (Rat.divInt t b))) else none
 |_=>none
def yey{t b:Int}(h:b≠0):(gc t b).natAbs<=b.natAbs:=by
 have:=Wh t b
 exact zaq this h
def zsx{t b:Int}(h:b≠0)(d:b.natAbs<2^9000):zbt (gc t b)=true/\zbt (-(gc t b))=true:=by
 have p:=zfi (a:=t) h;have l:=yey (t:=t) h;exact⟨zbr (n:=9000) vB vB (Zl _),zbr (n:=9000) vB (by rw[Jj];omega) (Zl _)⟩
def yht{t b:Int}(h:b≠0):fr (Rat.divInt t b)=.tup [.int (low1 t b),.int (low2 t b)]:=by
 obtain⟨a,c⟩:=ymh (t:=t) h
 unfold fr;rw[a,c]
def ok_ratio(f:Γ 0=zaa):∀d w,d.length=2->zcs d=some w->run Γ zrb 3 d=some w:=by
 intro d w _ h;unfold zcs at h;split at h
 ·rename_i t b _;split at h
  ·rename_i z;cases h;unfold zrb;walk_at "evh"
   try simp only[z.1,decide_false]
   try walk_at "evh"
   simp only[f,zbp];walk_at "evh"
   obtain⟨g,i⟩:=zsx (t:=t) z.1 z.2
   rw[yht z.1];unfold low1 low2 by_;by_cases e:b<0
   ·simp only[e,decide_true];walk_at "evh"
    try simp only[i]
    try walk_at "evh"
   ·simp only[e,decide_false];walk_at "evh"
    try simp only[g]
    try walk_at "evh"
  ·cases h
 ·cases h
def fr2(C:Rat->Rat->Bool)(g:Rat->Rat->D):∅
 |[a,b]=>match asFr a,asFr b with
  |some x,some y=>if C x y=true then some (.val (g x y)) else none
  |_,_=>none
 |_=>none
def zdd{C:Rat->Rat->Bool}{g:Rat->Rat->D}{d:List D}{w:W}(h:fr2 C g d=some w):∃x y,d=[fr x,fr y]/\C x y=true/\w=.val (g x y):=by
 unfold fr2 at h;split at h
 ·split at h
  ·rename_i x y e f;split at h
   ·rename_i z;cases h;exact⟨x,y,by rw[zpc e,zpc f],z,rfl⟩
   ·cases h
  ·cases h
 ·cases h
def Bx{C:Rat->Rat->Bool}{g:Rat->Rat->D}{x y:Rat}(h:C x y=true):fr2 C g [fr x,fr y]=some (.val (g x y)):=by
 unfold fr2;simp only[yov,h,if_true]
def okRR(x y:Rat):Bool:=okR x && okR y
def Bt{m n:Nat}{x y:Rat}(d:Sz m x)(e:Sz n y)(f:m<=4400)(g:n<=4400):okRR x y=true:=by
 unfold okRR;rw[yhj d f,yhj e g];rfl
def zeq{x y:Rat}(h:okRR x y=true):Sz 4400 x/\Sz 4400 y:=by
 unfold okRR at h;rw[Zk] at h;exact⟨yhi h.1,yhi h.2⟩
def zcj:∅:=fr2 okRR λx y=>fr (x+y)
def B8:∅:=fr2 okRR λx y=>fr (x-y)
def By:∅:=fr2 okRR λx y=>fr (x*y)
def zfg:∅:=fr2 (λx y=>okRR x y && decide (y≠0)) λx y=>fr (x/y)
def zgl:∅:=fr2 okRR λx y=>.bl (decide (x<y))
def den_pos(x:Rat):(0:Int)<x.den:=(zdc x).pos
def ok_plus(A:Γ 0=zaa):∀g w,g.length=2->zcj g=some w->run Γ yaz 5 g=some w:=by
 intro g w _ h;obtain⟨x,y,rfl,j,rfl⟩:=zdd h
 obtain⟨sx,sy⟩:=zeq j
 have o:=den_pos x;have q:=den_pos y;have f:(y.den:Int)≠0:=by omega
 have i:=zfi (a:=(x.den:Int)) f;have r:=yey (t:=(x.den:Int)) f;have B:((y.den:Int)).natAbs=y.den:=Yo _;have C:zbt (gc x.den y.den)=true:=zbr (n:=4400) vB (by have:=sy.b;omega) vA;have e:∀{p s:Int},0<s->(p.fdiv s).natAbs<=p.natAbs:=λ{p s} u=>by
  rw[Vo _ (Qf u)];have:=Int.natAbs_ediv_le_natAbs p s
  exact this
 have l1:=e (p:=(y.den:Int)) i;have l2:=e (p:=(x.den:Int)) i;have D:((x.den:Int)).natAbs=x.den:=Yo _;have E:Bw x.num ((y.den:Int).fdiv (gc x.den y.den))=true:=Br sx.t (n:=4400) (by have:=sy.b;omega) vA vA;have F:Bw y.num ((x.den:Int).fdiv (gc x.den y.den))=true:=Br sy.t (n:=4400) (by have:=sx.b;omega) vA vA;have d:gc (x.den:Int) y.den≠0:=by omega
 have l:=zfi (a:=addT x.num x.den y.num y.den) d;have v:=yey (t:=addT x.num x.den y.num y.den) d;have G:zbt (gc (addT x.num x.den y.num y.den) (gc x.den y.den))=true:=zbr (n:=4400) vB (by have:=sy.b;omega) vA;have z:=e (p:=(y.den:Int)) l;have H:Bw ((x.den:Int).fdiv (gc x.den y.den)) ((y.den:Int).fdiv (gc (addT x.num x.den y.num y.den) (gc x.den y.den)))=true:=Br (m:=4400) (n:=4400) (by have:=sx.b;omega) (by have:=sy.b;omega) vA vA;obtain⟨I,J⟩:=ypf x y
 have K:x.num*(y.den:Int).fdiv (gc x.den y.den)+y.num*(x.den:Int).fdiv (gc x.den y.den)=addT x.num x.den y.num y.den:=rfl;have L:=@zbp;clear j h o q sx sy f i r d l v l1 l2 z e;unfold yaz;simp only[fr];walk_at "evh"
 rfl
def ok_minus(f:Γ 9=zcj):∀d w,d.length=2->B8 d=some w->run Γ zrc 2 d=some w:=by
 intro d w _ h;obtain⟨x,y,rfl,g,rfl⟩:=zdd h
 obtain⟨sx,sy⟩:=zeq g
 unfold zrc;simp only[fr];walk_at "evh"
 have e:(D.tup [.int (-y.num),.int (y.den:Int)])=fr (-y):=rfl;have i:(D.tup [.int x.num,.int (x.den:Int)])=fr x:=rfl;have q:zcj [fr x,fr (-y)]=some (.val (fr (x + -y))):=Bx (Bt sx sy.neg (Zl _) (Zl _));simp only[f,e,i,q];walk_at "evh"
 rw[Jf];rfl
def ok_times(f:Γ 1=zcs):∀d w,d.length=2->By d=some w->run Γ zra 2 d=some w:=by
 intro d w _ h;obtain⟨x,y,rfl,g,rfl⟩:=zdd h
 obtain⟨sx,sy⟩:=zeq g
 have o:=den_pos x;have p:=den_pos y;have i:Bw x.num y.num=true:=Br sx.t sy.t vA vA;have j:Bw (x.den:Int) y.den=true:=Br (m:=4400) (n:=4400) (by rw[Yo];exact sx.b) (by rw[Yo];exact sy.b) vA vA;have l:((x.den:Int)*y.den).natAbs<2^9000:=by
  rw[Z5,Yo,Yo];exact Ze (zam sx.b sy.b) (Bn vA)
 have e:(x.den:Int)*y.den≠0:=Yf vB vB;unfold zra;simp only[fr];walk_at "evh"
 try simp only[i,j]
 try walk_at "evh"
 have q:zcs [.int (x.num*y.num),.int ((x.den:Int)*y.den)]=some (.val (fr (x*y))):=by
  show(if _ then _ else _)=_;rw[if_pos ⟨e,l⟩,<-zqc]
 simp only[f,q];walk_at "evh"
 rfl
end
set_option exponentiation.threshold 20000
open Sf
section
variable{Γ:Nat->∅}
def isInt:D->Bool
 |.int _=>true
 |_=>false
end
set_option exponentiation.threshold 20000
open Sf
section
variable{Γ:Nat->∅}
def zas{a b:Int}{m n:Nat}(h:a.natAbs<2^m)(k:b.natAbs<2^n):(a*b).natAbs<2^(m+n):=by
 rw[Z5];exact zam h k
end
set_option exponentiation.threshold 20000
open Sf
section
variable{Γ:Nat->∅}
end
open Sf
section
variable{Γ:Nat->∅}
def per(c:Int):Int:=match (c%4).toNat with
 |0=>1
 |1=>3
 |2=>1000000000
 |_=>1000000000000000000
end
open Sf
section
variable{Γ:Nat->∅}
end
open Sf
section
variable{Γ:Nat->∅}
end
open Sf
section
variable{Γ:Nat->∅}
def Bq{x:Rat}{n:Nat}(h:Sz n x):((x.den:Int)).natAbs<2^n:=by rw[Yo];exact h.b
def zsi(x y:Rat):decide (x<y)=decide (x.num*(y.den:Int)<y.num*(x.den:Int)):=by
 rw[Jc];simp only[decide_eq_true_eq];exact Rat.lt_iff x y
def num_zero{y:Rat}:y.num=0↔y=0:=Rat.num_eq_zero
def ok_over(m:Γ 1=zcs):∀d w,d.length=2->zfg d=some w->run Γ yba 2 d=some w:=by
 intro d w _ h;obtain⟨x,y,e,f,l⟩:=zdd h
 subst e;subst l;rw[Zk] at f;obtain⟨sx,sy⟩:=zeq f.1
 have g:y≠0:=of_decide_eq_true f.2;have i:y.num≠0:=λz=>g (num_zero.mp z)
 have n:Bw x.num (y.den:Int)=true:=Br sx.t (Bq sy) vA vA;have o:Bw (x.den:Int) y.num=true:=Br (Bq sx) sy.t vA vA;have j:(x.den:Int)*y.num≠0:=λz=>by
  rcases Vj.mp z with z|z
  ·have:=den_pos x;omega
  ·exact i z
 have r:zcs [.int (x.num*y.den),.int (x.den*y.num)]=some (.val (fr (x/y))):=by
  unfold zcs;simp only
  rw[if_pos ⟨j,by rw[Z5];exact Ze (zam (Bq sx) sy.t) (Bn vA)⟩,zzq g]
 clear sx sy f j i g h;unfold yba;walk_at "evh"
def yds:∀d w,d.length=2->zgl d=some w->run Γ zgg 2 d=some w:=by
 intro d w _ h;obtain⟨x,y,e,f,g⟩:=zdd h
 subst e;subst g;obtain⟨sx,sy⟩:=zeq f
 have i:Bw x.num (y.den:Int)=true:=Br sx.t (Bq sy) vA vA;have j:Bw y.num (x.den:Int)=true:=Br sy.t (Bq sx) vA vA;rw[zsi];clear sx sy f h;unfold zgg;walk_at "evh"
end
open Sf
section
variable{Γ:Nat->∅}
def zrd{d:Type}{l:List d}{i:Int}(e:0<=i)(f:i<l.length):L2.atI l i=l[i.toNat]?:=by
 unfold L2.atI L2.ixN;rw[if_pos e,if_pos f,Z9]
end
open Sf
section
variable{Γ:Nat->∅}
end
open Sf
section
variable{Γ:Nat->∅}
end
open Sf
def stD(q:Rat×Rat):D:=.tup [fr q.1,fr q.2]
def lf_stD(q:Rat×Rat):lf (stD q)=true:=rfl
theorem zcf:∀l:List (Rat×Rat),lfL (l.map stD)=true
 |[]=>rfl
 |p::l=>by rw[Zx];unfold lfL;rw[lf_stD,zcf l];rfl
section
variable{Γ:Nat->∅}
def yeg{t b:Int}(h:b≠0)(d:b.natAbs<2^9000):zcs [.int t,.int b]=some (.val (fr (Rat.divInt t b))):=by
 unfold zcs;simp only
 rw[if_pos ⟨h,d⟩]
end
open Sf
mutual
theorem zme:∀(n:Nat) (d:D),dOk n d=true->eqD d d=true
 |_,.non,_=>rfl
 |_,.bl b,_=>by simp only[eqD,beq_self_eq_true]
 |_,.int i,_=>by simp[eqD]
 |0,.tup l,h=>by simp only[dOk] at h;cases h
 |n+1,.tup l,h=>by
  simp only[dOk] at h;simp only[eqD];exact eqL_self n l h
 |0,.lst l,h=>by simp only[dOk] at h;cases h
 |n+1,.lst l,h=>by
  simp only[dOk] at h;simp only[eqD];exact eqL_self n l h
 |_,.exc x,h=>by simp only[dOk] at h;cases h
theorem eqL_self:∀(n:Nat) (l:List D),dOkL n l=true->eqL l l=true
 |_,[],_=>by simp only[eqL]
 |n,d::l,h=>by
  simp only[dOkL,Zk] at h;simp only[eqL,Zk];exact⟨zme n d h.1,eqL_self n l h.2⟩
end
theorem zor:∀l:List (Rat×Rat),dOkL 49 (l.map stD)=true
 |[]=>rfl
 |q::l=>by
  rw[Zx];unfold dOkL;rw[zor l];rfl
def SzL(n:Nat)(l:List (Rat×Rat)):Prop:=∀q∈l,Sz n q.1/\Sz n q.2
section
variable{Γ:Nat->∅}
def zbo:∅:=run (tab [(11,By)]) zjm 2
def ok_sized(e:Γ 11=By):∀d w,d.length=2->zbo d=some w->run Γ zjm 2 d=some w:=λd w _ h=>zbv [(11,By)] (by intro p f;rcases Z0.mp f with rfl;exact e) vA d w h
def zex{l:List (Rat×Rat)}{x:Rat}(n:l.length<=1000)(e:SzL 2000 l)(f:Sz 2000 x)(h:0<x.num):zbo [.lst (l.map stD),fr x]=some (.new ((l.map λq=>(q.1*x,q.2*x)).map stD)):=by
 unfold zbo;generalize d:tab [(11,By)]=Γ;have s:Γ 11=By:=by rw[<-d];rfl
 have o:decide (x.num<=0)=false:=decide_eq_false vB;have i:ev Γ (.comp (.tup #v[.call 11 #v[.var 1,.var 3],.call 11 #v[.var 2,.var 3]]) (.tup [1,2]) (.seqV 0) 3 [1] .non) [some (.lst (l.map stD)),some (fr x)]=some (.new (l.map λq=>stD (q.1*x,q.2*x))):=by
  refine zde (g:=stD) ?_ (by rw[Q2];omega) rfl λq j=>?_
  ·clear e f h o d;walk_at "evh"
  ·have t:By [fr q.1,fr x]=some (.val (fr (q.1*x))):=Bx (Bt (e q j).1 f vA vA);have u:By [fr q.2,fr x]=some (.val (fr (q.2*x))):=Bx (Bt (e q j).2 f vA vA);have p:stD (q.1*x,q.2*x)=.tup [fr (q.1*x),fr (q.2*x)]:=rfl;have r:stD q=.tup [fr q.1,fr q.2]:=rfl;rw[p,r];clear e f h o d j p r n;walk_at "evh"
 rw[Ya];show run Γ zjm 2 _=some (.new (l.map λq=>stD (q.1*x,q.2*x)));generalize (l.map λq=>stD (q.1*x,q.2*x))=O at *;unfold zjm;generalize m:E.comp _ _ _ _ _ _=v at *;clear e f h d n m;walk_at "evh"
end
open Sf
section
variable{Γ:Nat->∅}
end
open Sf
theorem zsr{j:D->RhoS->Option RhoS}{m:RhoS->Option Out}{I:RhoS->Prop}:∀(l:List D),(∀d∈l,∀e,I e->∃i f,j d e=some i/\m i=some (.nx f)/\I f)->∀e,I e->∃g,forN j m l e=some (.nx g)/\I g
 |[],_,e,h=>⟨e,rfl,h⟩
 |d::l,n,e,h=>by
  obtain⟨i,f,o,p,q⟩:=n d (.head _) e h
  obtain⟨g,r,s⟩:=zsr l (λx t=>n x (.tail _ t)) f q
  refine⟨g,?_,s⟩
  unfold forN;rw[o];simp only
  rw[p];exact r
abbrev H3:=Int×Int×Int
def hD(h:H3):D:=.tup [.int h.1,.int h.2.1,.int h.2.2]
structure HB(n:Nat)(h:H3):Prop where
 a:h.1.natAbs<2^n
 b:h.2.1.natAbs<2^n
 c:h.2.2.natAbs<2^n
def oR(a b c:Rat×Rat):Rat:=(b.1-a.1)*(c.2-a.2)-(b.2-a.2)*(c.1-a.1)
def ltR(a b:Rat×Rat):Prop:=a.1<b.1\/(a.1=b.1/\a.2<b.2)
def cast_pos{i:Int}:(0:Rat)<(i:Rat)↔0<i:=by
 rw[show(0:Rat)=((0:Int):Rat) from rfl,Z1]
def zsg(x:Rat):(x.num:Rat)=x*((x.den:Int):Rat):=by
 have d:=cast_pos.mpr (den_pos x);have h:((x.den:Int):Rat)≠0:=λz=>by rw[z] at d;exact absurd d vA
 have e:x=(x.num:Rat)/((x.den:Int):Rat):=by
  conv=>lhs;rw[<-Vs x,Rat.mkRat_eq_div]
  rw[Gq]
 have f:x*((x.den:Int):Rat)=(x.num:Rat)/((x.den:Int):Rat)*((x.den:Int):Rat):=by
  conv=>lhs;lhs;rw[e]
 rw[f,G0 h]
section
variable{Γ:Nat->∅}
structure IsShp(l:List (Rat×Rat)):Prop where
 three:3<=l.length
 first:∀k q0 q,l[0]? = some q0->l[k+1]? = some q->ltR q0 q
 conv:∀k a b c,l[(k+l.length-1)%l.length]? = some a->l[k]? = some b->c∈l->c≠a->c≠b->0<oR a b c
end
open Sf
section
variable{Γ:Nat->∅}
end
open Sf
section
variable{Γ:Nat->∅}
end
open Sf
def cut_to{l:List D}{a:Nat}(h:a<=l.length):cutD l none (some (a:Int))=l.take a:=by
 unfold cutD;rw[HT.sIx_none,HT.sIx_nat,Vn,Uy,Jz h]
def ztb{l:List D}{a:Nat}(h:a<=l.length):cutD l (some (a:Int)) none=l.drop a:=by
 unfold cutD;rw[HT.sIx_none,HT.sIx_nat,Jz h,V5 (by rw[Yi];exact Zl _)]
section
variable{Γ Γ':Nat->∅}
end
open Sf
def t3(a b c:Rat):H3:=(a.num*((b.den:Int)*(c.den:Int)),b.num*((a.den:Int)*(c.den:Int)),c.num*((a.den:Int)*(b.den:Int)))
def g3(t:H3):Int:=gc (gc (gc 0 t.1) t.2.1) t.2.2
def low3(a b c:Rat):H3:=((t3 a b c).1.fdiv (g3 (t3 a b c)),(t3 a b c).2.1.fdiv (g3 (t3 a b c)),(t3 a b c).2.2.fdiv (g3 (t3 a b c)))
def zzg(t:H3):g3 t∣t.1/\g3 t∣t.2.1/\g3 t∣t.2.2:=by
 unfold g3 gc;have d:=Qv (a:=((Int.gcd (Int.gcd 0 t.1:Int) t.2.1:Nat):Int)) (b:=t.2.2);have e:=Qv (a:=((Int.gcd 0 t.1:Nat):Int)) (b:=t.2.1);have f:=Wh (a:=0) (b:=t.1);have g:=Wh (a:=((Int.gcd 0 t.1:Nat):Int)) (b:=t.2.1);have h:=Wh (a:=((Int.gcd (Int.gcd 0 t.1:Int) t.2.1:Nat):Int)) (b:=t.2.2);exact⟨Wu d (Wu e f),Wu d g,h⟩
def dvd_g3{t:H3}{d:Int}(e:d∣t.1)(f:d∣t.2.1)(g:d∣t.2.2):d∣g3 t:=by
 unfold g3 gc;exact Jd (Jd (Jd (Int.dvd_zero d) e) f) g
def yhs{t:H3}(h:t.1≠0\/t.2.1≠0\/t.2.2≠0):0<g3 t:=by
 have m:0<=g3 t:=Yn _;have n:g3 t≠0:=λe=>by
  obtain⟨d,f,g⟩:=zzg t
  rw[e] at d f g;have i:=Gg.mp d;have j:=Gg.mp f;have l:=Gg.mp g;rcases h with h|h|h
  ·exact h i
  ·exact h j
  ·exact h l
 omega
structure Low3(a b c:Rat)(t:H3):Prop where
 co:gc (gc t.1 t.2.1) t.2.2=1
 scale:∃k:Rat,0<k/\(t.1:Rat)=k*a/\(t.2.1:Rat)=k*b/\(t.2.2:Rat)=k*c
def zym{a b c:Rat}(h:a≠0\/b≠0):Low3 a b c (low3 a b c):=by
 have t:=den_pos a;have u:=den_pos b;have v:=den_pos c;have l:(t3 a b c).1≠0\/(t3 a b c).2.1≠0\/(t3 a b c).2.2≠0:=by
  rcases h with h|h
  ·left
   exact Yf (λe=>h (num_zero.mp e)) (Yf vB vB)
  ·right;left
   exact Yf (λe=>h (num_zero.mp e)) (Yf vB vB)
 have w:=yhs l;obtain⟨⟨x,m⟩,⟨y,n⟩,⟨z,o⟩⟩:=zzg (t3 a b c)
 have B:(t3 a b c).1.fdiv (g3 (t3 a b c))=x:=by
  conv=>lhs;lhs;rw[m]
  exact Z7 _ vB
 have C:(t3 a b c).2.1.fdiv (g3 (t3 a b c))=y:=by
  conv=>lhs;lhs;rw[n]
  exact Z7 _ vB
 have D:(t3 a b c).2.2.fdiv (g3 (t3 a b c))=z:=by
  conv=>lhs;lhs;rw[o]
  exact Z7 _ vB
 unfold low3;rw[B,C,D];generalize E:g3 (t3 a b c)=g at *;refine⟨?_,?_⟩
 ·have F:0<=gc (gc x y) z:=gc_nn _ _;have G:gc (gc x y) z∣z:=Wh _ _;have r:gc (gc x y) z∣gc x y:=Qv _ _;have H:gc (gc x y) z∣x:=Wu r (Qv _ _);have I:gc (gc x y) z∣y:=Wu r (Wh _ _);simp only
  generalize gc (gc x y) z=d at *;have s:g*d∣g3 (t3 a b c):=dvd_g3 (by rw[m];exact Ue g H) (by rw[n];exact Ue g I) (by rw[o];exact Ue g G);rw[E] at s;obtain⟨k,J⟩:=s
  have:d*k=1:=by
   apply Int.eq_of_mul_eq_mul_left (show g≠0 by omega)
   rw[<-Us,<-J,Uj]
  exact Int.eq_one_of_mul_eq_one_right F this
 ·have p:(0:Rat)<(g:Rat):=cast_pos.mpr w;have gi:=Kj.mpr p;have f:(g:Rat)≠0:=λe=>by rw[e] at p;exact absurd p vA
  have A:=cast_pos.mpr t;have K:=cast_pos.mpr u;have L:=cast_pos.mpr v;refine⟨((a.den:Int):Rat)*((b.den:Int):Rat)*((c.den:Int):Rat)*(g:Rat)⁻¹,Zz (Zz (Zz A K) L) gi,?_,?_,?_⟩
  ·have q:((t3 a b c).1:Rat)=(g:Rat)*(x:Rat):=by rw[m,Z4]
   have i:((t3 a b c).1:Rat)=a*((a.den:Int):Rat)*(((b.den:Int):Rat)*((c.den:Int):Rat)):=by
    unfold t3;simp only[Z4];rw[zsg a]
   have j:(x:Rat)=(g:Rat)⁻¹*((g:Rat)*(x:Rat)):=by rw[<-Jn,Uq _ f,Ug]
   simp only
   rw[j,<-q,i];grind
  ·have q:((t3 a b c).2.1:Rat)=(g:Rat)*(y:Rat):=by rw[n,Z4]
   have i:((t3 a b c).2.1:Rat)=b*((b.den:Int):Rat)*(((a.den:Int):Rat)*((c.den:Int):Rat)):=by
    unfold t3;simp only[Z4];rw[zsg b]
   have j:(y:Rat)=(g:Rat)⁻¹*((g:Rat)*(y:Rat)):=by rw[<-Jn,Uq _ f,Ug]
   simp only
   rw[j,<-q,i];grind
  ·have q:((t3 a b c).2.2:Rat)=(g:Rat)*(z:Rat):=by rw[o,Z4]
   have i:((t3 a b c).2.2:Rat)=c*((c.den:Int):Rat)*(((a.den:Int):Rat)*((b.den:Int):Rat)):=by
    unfold t3;simp only[Z4];rw[zsg c]
   have j:(z:Rat)=(g:Rat)⁻¹*((g:Rat)*(z:Rat)):=by rw[<-Jn,Uq _ f,Ug]
   simp only
   rw[j,<-q,i];grind
def t3_bd{n:Nat}{a b c:Rat}(d:Sz n a)(e:Sz n b)(f:Sz n c):HB (n+(n+n)) (t3 a b c):=
 ⟨zas d.t (zas (Bq e) (Bq f)),zas e.t (zas (Bq d) (Bq f)),zas f.t (zas (Bq d) (Bq e))⟩
section
variable{Γ:Nat->∅}
def zqf:∅:=run (tab [(0,zaa)]) zbc 6
def ok_lowest_whole(e:Γ 0=zaa):∀d w,d.length=1->zqf d=some w->run Γ zbc 6 d=some w:=λd w _ h=>zbv [(0,zaa)] (by intro p f;rcases Z0.mp f with rfl;exact e) vA d w h
def zql{x d y:Int}(f:d≠0)(e:x=d*y):x.fdiv d=y:=by rw[e];exact Z7 _ f
abbrev cLw:E:=(.comp (.bin .mul (.ix (.var 1) (.int 0)) (.bin .fdiv (.var 2) (.ix (.var 1) (.int 1)))) (.name 1) (.seqV 0) 2 [1] .non)
abbrev fLw:E:=(.fm .tupl #v[.comp (.bin .fdiv (.var 1) (.var 2)) (.name 1) (.seqV 3) 2 [4] .non])
def yek(t:Γ 0=zaa){h i j:D}{a b c l m n g:Int}{O:D}(w:ixD h (.int 1)=some (.int a))(A:ixD i (.int 1)=some (.int b))(C:ixD j (.int 1)=some (.int c))(F:lf h=true)(G:lf i=true)(H:lf j=true)(I:Bw 1 a=true)(J:1*a=a)(K:Bw a b=true)(L:Bw (a*b) c=true)
 (q:∀x y u v,ev Γ cLw [some (.tup [h,i,j]),some (.int (a*b*c)),x,y,u,v]=some (.new [.int l,.int m,.int n]))(r:∀x y z u,ev Γ fLw [x,y,z,some (.lst [.int l,.int m,.int n]),some (.int g),u]=some (.val O))(M:gc (gc (gc 0 l) m) n=g):run Γ zbc 6 [.tup [h,i,j]]=some (.val O):=by
 have s:∀a b c d e f:Option B,frz [a,b,c,d,e,f]=[a.map λx=>.sh x.d,b.map λx=>.sh x.d,c.map λx=>.sh x.d,d.map λx=>.sh x.d,e.map λx=>.sh x.d,f.map λx=>.sh x.d]:=λ_ _ _ _ _ _=>rfl
 have N:=@zbp;unfold zbc;unfold cLw at q;unfold fLw at r;generalize o:E.comp (.bin .mul (.ix (.var 1) (.int 0)) (.bin .fdiv (.var 2) (.ix (.var 1) (.int 1)))) (.name 1) (.seqV 0) 2 [1] .non=P at *;generalize p:E.fm .tupl _=Q at *;clear o p;walk_at "evh"
 unfold forN;walk_at "evh"
 unfold forN;walk_at "evh"
 unfold forN;walk_at "evh"
 unfold forN;walk_at "evh"
 unfold forN;walk_at "evh"
 unfold forN;walk_at "evh"
 unfold forN;walk_at "evh"
 unfold forN;walk_at "evh"
def yel{n:Nat}{a b c:Rat}(d:Sz n a)(f:Sz n b)(j:Sz n c)(P:n<=1000)(o:a≠0\/b≠0):zqf [.tup [fr a,fr b,fr c]]=some (.val (hD (low3 a b c))):=by
 unfold zqf;generalize q:tab [(0,zaa)]=Γ;have J:Γ 0=zaa:=by rw[<-q];rfl
 have E:=den_pos a;have F:=den_pos b;have G:=den_pos c;have r:=t3_bd d f j;have i:(t3 a b c).1≠0\/(t3 a b c).2.1≠0\/(t3 a b c).2.2≠0:=by
  rcases o with h|h
  ·left
   exact Yf (λe=>h (num_zero.mp e)) (Yf vB vB)
  ·right;left
   exact Yf (λe=>h (num_zero.mp e)) (Yf vB vB)
 have H:=yhs i;have w:(g3 (t3 a b c)).natAbs<2^(n+(n+n)):=by
  obtain⟨K,L,M⟩:=zzg (t3 a b c)
  rcases i with h|h|h
  ·exact Ye (zaq K h) r.a
  ·exact Ye (zaq L h) r.b
  ·exact Ye (zaq M h) r.c
 have A:Bw 1 (a.den:Int)=true:=Br (n:=n) (m:=1) vA (Bq d) vA vB;have B:(1:Int)*(a.den:Int)=a.den:=Jq _;have C:Bw (a.den:Int) (b.den:Int)=true:=Br (Bq d) (Bq f) vB vB;have D:Bw ((a.den:Int)*(b.den:Int)) (c.den:Int)=true:=Br (zas (Bq d) (Bq f)) (Bq j) vB vB;have o1:zbt (a.den:Int)=true:=zbr vB (Bq d) vB;have o2:zbt (b.den:Int)=true:=zbr vB (Bq f) vB;have o3:zbt (c.den:Int)=true:=zbr vB (Bq j) vB;have o4:zbt (g3 (t3 a b c))=true:=zbr vB w vB;have Q:((a.den:Int)*(b.den:Int)*(c.den:Int)).fdiv (a.den:Int)=(b.den:Int)*(c.den:Int):=zql vB (by rw[Us]);have R:((a.den:Int)*(b.den:Int)*(c.den:Int)).fdiv (b.den:Int)=(a.den:Int)*(c.den:Int):=zql vB (by rw[Kl (a.den:Int) (b.den:Int),Us]);have S:((a.den:Int)*(b.den:Int)*(c.den:Int)).fdiv (c.den:Int)=(a.den:Int)*(b.den:Int):=zql vB (by rw[Kl]);have T:Bw a.num ((b.den:Int)*(c.den:Int))=true:=Br d.t (zas (Bq f) (Bq j)) vB vB;have U:Bw b.num ((a.den:Int)*(c.den:Int))=true:=Br f.t (zas (Bq d) (Bq j)) vB vB;have V:Bw c.num ((a.den:Int)*(b.den:Int))=true:=Br j.t (zas (Bq d) (Bq f)) vB vB;have I:∀x y u v,ev Γ (.comp (.bin .mul (.ix (.var 1) (.int 0)) (.bin .fdiv (.var 2) (.ix (.var 1) (.int 1)))) (.name 1) (.seqV 0) 2 [1] .non) [some (.tup [fr a,fr b,fr c]),some (.int ((a.den:Int)*(b.den:Int)*(c.den:Int))),x,y,u,v]=some (.new [.int (t3 a b c).1,.int (t3 a b c).2.1,.int (t3 a b c).2.2]):=by
  intro x y u v;have:=zde (Γ:=Γ) (ρ:=[some (.tup [fr a,fr b,fr c]),some (.int ((a.den:Int)*(b.den:Int)*(c.den:Int))),x,y,u,v]) (elt:=.bin .mul (.ix (.var 1) (.int 0)) (.bin .fdiv (.var 2) (.ix (.var 1) (.int 1)))) (t:=.name 1) (it:=.seqV 0) (nt:=2) (fr:=[1]) (c:=.non) (l:=[(a,(t3 a b c).1),(b,(t3 a b c).2.1),(c,(t3 a b c).2.2)]) (g:=λp=>fr p.1) (h:=λp=>.int p.2) (by rfl) (by show 3<=PySem.sizeLine;decide) rfl (λp s=>?_)
  ·exact this
  ·simp only[Zh,Zr,or_false] at s;clear r i H w A C D o4 d f j E F G o q B;rcases s with rfl|rfl|rfl<;>unfold t3<;>walk_at "evh"
 have N:∀x y z u,ev Γ (.fm .tupl #v[.comp (.bin .fdiv (.var 1) (.var 2)) (.name 1) (.seqV 3) 2 [4] .non]) [x,y,z,some (.lst [.int (t3 a b c).1,.int (t3 a b c).2.1,.int (t3 a b c).2.2]),some (.int (g3 (t3 a b c))),u]=some (.val (hD (low3 a b c))):=by
  intro x y z u;have:=zde (Γ:=Γ) (ρ:=[x,y,z,some (.lst [.int (t3 a b c).1,.int (t3 a b c).2.1,.int (t3 a b c).2.2]),some (.int (g3 (t3 a b c))),u]) (elt:=.bin .fdiv (.var 1) (.var 2)) (t:=.name 1) (it:=.seqV 3) (nt:=2) (fr:=[4]) (c:=.non) (l:=[(t3 a b c).1,(t3 a b c).2.1,(t3 a b c).2.2]) (g:=λp=>.int p) (h:=λp=>.int (p.fdiv (g3 (t3 a b c)))) (by rfl) (by show 3<=PySem.sizeLine;decide) rfl (λp s=>by
    clear s r i H w A C D d f j E F G o q I B;walk_at "evh")
  rw[ev_fm,zsu,zzm];unfold evd;rw[this];rfl
 have O:gc (gc (gc 0 (t3 a b c).1) (t3 a b c).2.1) (t3 a b c).2.2=g3 (t3 a b c):=rfl;exact yek J ixf1 ixf1 ixf1 lff lff lff A B C D I N O
end
open Sf
def pairsOf{d:Type}(l:List d):List (d×d):=l.zip (l.drop 1++l.take 1)
def zcd{d:Type}(l:List d):(pairsOf l).length=l.length:=by
 unfold pairsOf;rw[Ju,Yc,Yi,Wy];omega
def zis{f:Type}{l:List f}{k:Nat}{p:f×f}(h:(pairsOf l)[k]? = some p):l[k]? = some p.1/\l[(k+1)%l.length]? = some p.2:=by
 have g:k<l.length:=by
  have:=(Zo.mp h).1
  rw[zcd] at this;exact this
 unfold pairsOf at h;rw[Kb] at h;refine⟨h.1,?_⟩
 have d:=h.2;rcases Yd (k+1) l.length with q|q
 ·rw[Yt (by rw[Yi];omega),Um,Gf] at d;rw[Zm q];exact d
 ·have e:k+1=l.length:=by omega
  rw[Yg (by rw[Yi];omega),Yi,show k-(l.length-1)=0 by omega,Jk vA] at d;rw[e,K3];exact d
theorem zip_map(l:List (Rat×Rat)):zipD (l.map stD) ((l.map stD).drop 1++(l.map stD).take 1)=(pairsOf l).map λp=>D.tup [stD p.1,stD p.2]:=by
 unfold zipD pairsOf;rw[<-Vz,<-Vy,<-Y7,List.zip_map,Ya];rfl
def zeh(s e:Rat×Rat):H3:=low3 (s.2-e.2) (e.1-s.1) ((s.2-e.2)*s.1+(e.1-s.1)*s.2)
def zlq{s e:Rat×Rat}(h:s≠e):s.2-e.2≠0\/e.1-s.1≠0:=by
 refine Wa λd=>h ?_
 have f:s.2-e.2=0:=Wa λz=>d (.inl z)
 have g:e.1-s.1=0:=Wa λz=>d (.inr z)
 refine Ys ?_ ?_
 ·grind
 ·grind
section
variable{Γ:Nat->∅}
def zdi:∅:=run (tab []) zms 1
def ok_steps:∀d w,d.length=1->zdi d=some w->run Γ zms 1 d=some w:=λd w _ h=>zbv [] (λp e=>by cases e) vA d w h
def znd{L:List D}(d:1<=L.length)(e:L.length<=1000):zdi [.lst L]=some (.new (zipD L (L.drop 1++L.take 1))):=by
 have f:=ztb (l:=L) (a:=1) d;have g:=cut_to (l:=L) (a:=1) d;rw[show((1:Nat):Int)=1 from rfl] at f g;have h:opW .add (.lst (L.drop 1)) (.lst (L.take 1))=some (.new (L.drop 1++L.take 1)):=by
  show(if _ then some (W.new _) else none)=_;rw[if_pos (by rw[Q2,Yi,Wy];omega)]
 have i:fmW .zip [.lst L,.lst (L.drop 1++L.take 1)]=some (.new (zipD L (L.drop 1++L.take 1))):=by
  show(if _ then some (W.new _) else none)=_;rw[if_pos (by rw[Yc,Yi,Wy];omega)]
 generalize zipD L (L.drop 1++L.take 1)=Z at *;generalize L.drop 1++L.take 1=Y at *;generalize L.drop 1=j at *;generalize L.take 1=m at *;clear d e;unfold zdi zms;walk_at "evh"
abbrev zhc:List (Nat×(∅)):=[(9,zcj),(10,B8),(11,By),(43,zqf)]
def zfd:∅:=run (tab zhc) zbs 5
def ok_side_between(j:Γ 9=zcj)(f:Γ 10=B8)(g:Γ 11=By)(i:Γ 43=zqf):∀d w,d.length=2->zfd d=some w->run Γ zbs 5 d=some w:=λd w _ h=>zbv zhc (by
 intro p e;simp only[zhc,Zh,Zr,or_false] at e;rcases e with rfl|rfl|rfl|rfl<;>assumption) vA d w h
def zwk{s e:Rat×Rat}(d:Sz 165 s.1)(f:Sz 165 s.2)(i:Sz 165 e.1)(j:Sz 165 e.2)(h:s≠e):zfd [stD s,stD e]=some (.val (hD (zeh s e))):=by
 unfold zfd;generalize g:tab zhc=Γ;have u:Γ 9=zcj:=by rw[<-g];rfl
 have p:Γ 10=B8:=by rw[<-g];rfl
 have q:Γ 11=By:=by rw[<-g];rfl
 have r:Γ 43=zqf:=by rw[<-g];rfl
 have l:=f.sub j;have m:=i.sub d;have v:B8 [fr s.2,fr e.2]=some (.val (fr (s.2-e.2))):=Bx (Bt f j vA vA);have w:B8 [fr e.1,fr s.1]=some (.val (fr (e.1-s.1))):=Bx (Bt i d vA vA);have z:By [fr (s.2-e.2),fr s.1]=some (.val (fr ((s.2-e.2)*s.1))):=Bx (Bt l d vA vA);have A:By [fr (e.1-s.1),fr s.2]=some (.val (fr ((e.1-s.1)*s.2))):=Bx (Bt m f vA vA);have B:zcj [fr ((s.2-e.2)*s.1),fr ((e.1-s.1)*s.2)]=some (.val (fr ((s.2-e.2)*s.1+(e.1-s.1)*s.2))):=Bx (Bt (l.mul d) (m.mul f) vA vA);have n:=(l.mul d).add (m.mul f);have t:=yel (l.mono (show 165+165+1<=1000 by decide)) (m.mono (show 165+165+1<=1000 by decide)) (n.mono (show(165+165+1+165)+(165+165+1+165)+1<=1000 by decide)) vA (zlq h);have o:hD (low3 (s.2-e.2) (e.1-s.1) ((s.2-e.2)*s.1+(e.1-s.1)*s.2))=hD (zeh s e):=rfl;rw[o] at t;generalize hD (zeh s e)=O at *;clear l m n d f i j h g o;unfold zbs stD;walk_at "evh"
def ziw:∅:=run (tab [(41,zdi),(42,zfd)]) zcw 1
def ok_sides_of(f:Γ 41=zdi)(g:Γ 42=zfd):∀d w,d.length=1->ziw d=some w->run Γ zcw 1 d=some w:=λd w _ h=>zbv [(41,zdi),(42,zfd)] (by
 intro p e;simp only[Zh,Zr,or_false] at e;rcases e with rfl|rfl<;>assumption) vA d w h
def zdn(l:List (Rat×Rat)):List H3:=(pairsOf l).map λp=>zeh p.1 p.2
def ylt{l:List (Rat×Rat)}(g:l.Nodup)(n:2<=l.length){p:(Rat×Rat)×(Rat×Rat)}(h:p∈pairsOf l):p.1≠p.2/\p.1∈l/\p.2∈l:=by
 obtain⟨k,i⟩:=W6 h
 obtain⟨d,f⟩:=zis i
 refine⟨λe=>?_,Yq d,Yq f⟩
 rw[e] at d;obtain⟨l1,j⟩:=Zo.mp d
 obtain⟨l2,m⟩:=Zo.mp f
 have:=(Kg g).mp (j.trans m.symm)
 rcases Yd (k+1) l.length with q|q
 ·rw[Zm q] at this;omega
 ·rw[show k+1=l.length by omega,K3] at this;omega
def zwi{l:List (Rat×Rat)}(f:l.Nodup)(h:2<=l.length)(i:l.length<=1000)(e:SzL 165 l):ziw [.lst (l.map stD)]=some (.new ((zdn l).map hD)):=by
 unfold ziw;generalize d:tab [(41,zdi),(42,zfd)]=Γ;have t:Γ 41=zdi:=by rw[<-d];rfl
 have u:Γ 42=zfd:=by rw[<-d];rfl
 have j:=znd (L:=l.map stD) (by rw[Zc];omega) (by rw[Zc];exact i);rw[zip_map] at j;have pl:=zcd l;have m:ev Γ (.comp (.call 42 #v[.var 1,.var 2]) (.tup [1,2]) (.seq (.call 41 #v[.var 0])) 3 [] .non) [some (.lst (l.map stD))]=some (.new ((pairsOf l).map λp=>hD (zeh p.1 p.2))):=by
  refine zde (g:=λp=>D.tup [stD p.1,stD p.2]) ?_ (by rw[Q2];omega) rfl λp r=>?_
  ·generalize (pairsOf l).map (λp=>D.tup [stD p.1,stD p.2])=Z at *;clear f h i e d pl;walk_at "evh"
  ·obtain⟨s,n,o⟩:=ylt f h r
   have v:=zwk (e _ n).1 (e _ n).2 (e _ o).1 (e _ o).2 s;generalize hD (zeh p.1 p.2)=O at *;generalize stD p.1=x at *;generalize stD p.2=y at *;clear f h i e d pl s n o r j;walk_at "evh"
 unfold zdn;rw[Ya];show run Γ zcw 1 _=some (.new ((pairsOf l).map λp=>hD (zeh p.1 p.2)));generalize ((pairsOf l).map λp=>hD (zeh p.1 p.2))=O at *;unfold zcw;generalize q:E.comp _ _ _ _ _ _=w at *;clear f h i e d pl q j;walk_at "evh"
end
open Sf
def Xr(p q:Rat×Rat):Rat:=p.1*q.2-q.1*p.2
def oR_X(a b c:Rat×Rat):oR a b c=Xr a b+Xr b c-Xr a c:=by unfold oR Xr;grind
abbrev at0(l:List (Rat×Rat))(i:Nat):Rat×Rat:=l.getD i (0,0)
def sX(l:List (Rat×Rat)):Nat->Rat
 |0=>0
 |i+1=>sX l i+Xr (at0 l i) (at0 l ((i+1)%l.length))
def fanN(l:List (Rat×Rat)):Nat->Rat
 |0=>0
 |i+1=>fanN l i+oR (at0 l 0) (at0 l (i+1)) (at0 l (i+2))
theorem yhw{l:List (Rat×Rat)}:∀k,k+1<l.length->fanN l k=sX l (k+1)-Xr (at0 l 0) (at0 l (k+1))
 |0,h=>by
  show(0:Rat)=0+Xr (at0 l 0) (at0 l ((0+1)%l.length))-Xr (at0 l 0) (at0 l (0+1));rw[Zm h];grind
 |k+1,h=>by
  show fanN l k+oR (at0 l 0) (at0 l (k+1)) (at0 l (k+2))=sX l (k+1)+Xr (at0 l (k+1)) (at0 l ((k+1+1)%l.length))-Xr (at0 l 0) (at0 l (k+1+1));rw[yhw k vB,oR_X,Zm h];grind
def shoe{l:List (Rat×Rat)}(h:2<=l.length):sX l l.length=fanN l (l.length-2):=by
 have e:=yhw (l:=l) (l.length-2) vB;rw[show l.length-2+1=l.length-1 by omega] at e;rw[e];have:sX l l.length=sX l (l.length-1)+Xr (at0 l (l.length-1)) (at0 l 0):=by
  conv=>lhs;rw[show l.length=(l.length-1)+1 by omega]
  show sX l (l.length-1)+Xr (at0 l (l.length-1)) (at0 l ((l.length-1+1)%l.length))=_;rw[show l.length-1+1=l.length by omega,K3]
 rw[this];unfold Xr;grind
def zpz(l:List (Rat×Rat)):pairsOf l=(List.range l.length).map λi=>(at0 l i,at0 l ((i+1)%l.length)):=by
 refine Qm λk=>?_;rcases Yd k l.length with q|q
 ·have d:(pairsOf l)[k]? = some ((pairsOf l)[k]'(by rw[zcd];exact q)):=Zg _;obtain⟨e,f⟩:=zis d
  rw[d,Zj,K8 q,Wi];congr 1
  refine Ys ?_ ?_
  ·show _=l.getD k (0,0);rw[Zi,e];rfl
  ·show _=l.getD ((k+1)%l.length) (0,0);rw[Zi,f];rfl
 ·rw[Yl (by rw[zcd];exact q),Yl (by rw[Zc,Z6];exact q)]
section
variable{Γ:Nat->∅}
abbrev zdy:List (Nat×(∅)):=[(9,zcj),(10,B8),(11,By),(41,zdi)]
def zbl:∅:=run (tab zdy) zfs 5
def ok_doubled(j:Γ 9=zcj)(f:Γ 10=B8)(g:Γ 11=By)(i:Γ 41=zdi):∀d w,d.length=1->zbl d=some w->run Γ zfs 5 d=some w:=λd w _ h=>zbv zdy (by
 intro p e;simp only[zdy,Zh,Zr,or_false] at e;rcases e with rfl|rfl|rfl|rfl<;>assumption) vA d w h
abbrev zmp:Ss:=#v[.asg 4 (.call 10 #v[.call 11 #v[.ix (.var 2) (.int 0),.ix (.var 3) (.int 1)],.call 11 #v[.ix (.var 3) (.int 0),.ix (.var 2) (.int 1)]]),.asg 1 (.call 9 #v[.var 1,.var 4])]
theorem zsj(v:Γ 9=zcj)(g:Γ 10=B8)(j:Γ 11=By){l:List (Rat×Rat)}(hS:∀i,i<=l.length->Sz 600 (sX l i))(f:∀i,i<l.length->Sz 300 (at0 l i).1/\Sz 300 (at0 l i).2)(L:Option B):
  ∀(m i:Nat) (a b c:Option B),i+m=l.length->∃n o p,forN (zai (.tup [2,3])) (exs Γ zmp) ((List.range' i m).map λi=>D.tup [stD (at0 l i),stD (at0 l ((i+1)%l.length))]) [L,~~~fr (sX l i),a,b,c]=some (.nx [L,~~~fr (sX l l.length),n,o,p])
 |0,i,a,b,c,h=>⟨a,b,c,by rw[show i=l.length by omega];rfl⟩
 |m+1,i,a,b,c,h=>by
  obtain⟨n,o,p,q⟩:=zsj v g j hS f L m (i+1) (~~~stD (at0 l i)) (~~~stD (at0 l ((i+1)%l.length))) (~~~fr (Xr (at0 l i) (at0 l ((i+1)%l.length)))) vB
  refine⟨n,o,p,?_⟩
  rw[List.range'_succ,Zx];unfold forN;have s:(i+1)%l.length<l.length:=Wn _ vB;have d:=f i vB;have e:=f _ s;have t:=hS i vB;have u:=(d.1.mul e.2).sub (e.1.mul d.2);have w:By [fr (at0 l i).1,fr (at0 l ((i+1)%l.length)).2]=some (.val (fr ((at0 l i).1*(at0 l ((i+1)%l.length)).2))):=Bx (Bt d.1 e.2 vA vA);have z:By [fr (at0 l ((i+1)%l.length)).1,fr (at0 l i).2]=some (.val (fr ((at0 l ((i+1)%l.length)).1*(at0 l i).2))):=Bx (Bt e.1 d.2 vA vA);have A:B8 [fr ((at0 l i).1*(at0 l ((i+1)%l.length)).2),fr ((at0 l ((i+1)%l.length)).1*(at0 l i).2)]=some (.val (fr (Xr (at0 l i) (at0 l ((i+1)%l.length))))):=Bx (Bt (d.1.mul e.2) (e.1.mul d.2) vA vA);have C:zcj [fr (sX l i),fr (Xr (at0 l i) (at0 l ((i+1)%l.length)))]=some (.val (fr (sX l (i+1)))):=Bx (Bt t (show Sz (300+300+(300+300)+1) (Xr (at0 l i) (at0 l ((i+1)%l.length))) from u) vA vA);have r:exs Γ zmp [L,~~~fr (sX l i),~~~stD (at0 l i),~~~stD (at0 l ((i+1)%l.length)),c]=some (.nx [L,~~~fr (sX l (i+1)),~~~stD (at0 l i),~~~stD (at0 l ((i+1)%l.length)),~~~fr (Xr (at0 l i) (at0 l ((i+1)%l.length)))]):=by
   clear q t u d e f hS h s;unfold zmp stD;walk_at "evh"
  simp only[zti,zeu,ygw,ygx,Wi,Z9];rw[r];exact q
end
open Sf
section
variable{Γ:Nat->∅}
def zqq{l:List (Rat×Rat)}(hS:∀i,i<=l.length->Sz 600 (sX l i))(g:∀i,i<l.length->Sz 300 (at0 l i).1/\Sz 300 (at0 l i).2)(h:1<=l.length)(m:l.length<=200):zbl [.lst (l.map stD)]=some (.val (fr (sX l l.length))):=by
 unfold zbl;generalize d:tab zdy=Γ;have j:Γ 9=zcj:=by rw[<-d];rfl
 have e:Γ 10=B8:=by rw[<-d];rfl
 have f:Γ 11=By:=by rw[<-d];rfl
 have n:Γ 41=zdi:=by rw[<-d];rfl
 have o:=znd (L:=l.map stD) (by rw[Zc];exact h) (by rw[Zc];omega);rw[zip_map,zpz,Ya] at o;obtain⟨r,s,t,q⟩:=zsj j e f hS g (~~~.lst (l.map stD)) l.length 0 none none none vB
 rw[<-List.range_eq_range',show fr (sX l 0)=.tup [.int 0,.int 1] from rfl] at q;rw[show(List.range l.length).map (λi=>D.tup [stD (at0 l i),stD (at0 l ((i+1)%l.length))])=(List.range l.length).map ((λp=>D.tup [stD p.1,stD p.2]) ∘ λi=>(at0 l i,at0 l ((i+1)%l.length))) from rfl] at q;generalize (List.range l.length).map ((λp=>D.tup [stD p.1,stD p.2]) ∘ λi=>(at0 l i,at0 l ((i+1)%l.length)))=Z at *;unfold zmp at q;generalize sX l l.length=A at *;clear hS g h m d j e f;have u:∀L:D,frz [some (B.sh L),some (B.sh (D.tup [D.int 0,D.int 1])),none,none,none]=[some (B.sh L),some (B.sh (D.tup [D.int 0,D.int 1])),none,none,none]:=λ_=>rfl
 unfold zfs;cases g:lfL Z<;>walk_at "evh"
end
open Sf
def lv(a b:Int)(q:Rat×Rat):Rat:=(a:Rat)*q.1+(b:Rat)*q.2
def zaz{n:Nat}{a:Int}(h:a.natAbs<2^n)(d:1<=n):Sz n (a:Rat):=⟨h,Ze (show 1<2^1 by decide) (Bn d)⟩
def mx(a b:Int):Rat->List (Rat×Rat)->Rat
 |x,[]=>x
 |x,q::r=>mx a b (if x<lv a b q then lv a b q else x) r
theorem mx_ok(a b:Int):∀(r:List (Rat×Rat)) (x:Rat),x<=mx a b x r/\(∀q∈r,lv a b q<=mx a b x r)/\(mx a b x r=x\/∃q∈r,mx a b x r=lv a b q)
 |[],x=>⟨Wq,λq h=>(nomatch h),.inl rfl⟩
 |q::r,x=>by
  obtain⟨f,g,i⟩:=mx_ok a b r (if x<lv a b q then lv a b q else x)
  have e:mx a b x (q::r)=mx a b (if x<lv a b q then lv a b q else x) r:=rfl;rw[e];by_cases c:x<lv a b q
  ·rw[if_pos c] at f g i |-;refine⟨Jx (Zu c) f,λz d=>?_,?_⟩
   ·rcases Zh.mp d with e|e
    ·rw[e];exact f
    ·exact g z e
   ·rcases i with e|⟨z,d,e⟩
    ·exact .inr ⟨q,.head _,e⟩
    ·exact .inr ⟨z,.tail _ d,e⟩
  ·rw[if_neg c] at f g i |-;refine⟨f,λz d=>?_,?_⟩
   ·rcases Zh.mp d with e|e
    ·rw[e];exact Jx (Vw.mp c) f
    ·exact g z e
   ·rcases i with e|⟨z,d,e⟩
    ·exact .inl e
    ·exact .inr ⟨z,.tail _ d,e⟩
section
variable{Γ:Nat->∅}
abbrev zhe:List (Nat×(∅)):=[(9,zcj),(11,By)]
def zek:∅:=run (tab zhe) zmt 3
def ok_level(g:Γ 9=zcj)(f:Γ 11=By):∀d w,d.length=3->zek d=some w->run Γ zmt 3 d=some w:=λd w _ h=>zbv zhe (by
 intro p e;simp only[zhe,Zh,Zr,or_false] at e;rcases e with rfl|rfl<;>assumption) vA d w h
abbrev zhd:List (Nat×(∅)):=[(50,zek),(21,zgl)]
def zff:∅:=run (tab zhd) zjn 6
abbrev zfm:Ss:=#v[.asg 5 (.call 50 #v[.var 1,.var 2,.var 4]),.iff (.call 21 #v[.var 3,.var 5]) #v[.asg 3 (.var 5)] .nil]
end
open Sf
def zlj(a b:Rat):a<b\/a=b\/b<a:=by
 by_cases h:a<b
 ·exact .inl h
 ·by_cases e:a=b
  ·exact .inr (.inl e)
  ·exact .inr (.inr (by grind))
def ygy{a b c:Rat}(d:a<b)(e:b<c):a<c:=by grind
def zyi(a:Rat×Rat):¬ltR a a:=λh=>by
 rcases h with h|⟨_,h⟩<;>exact Rat.lt_irrefl h
def zyh{a b c:Rat×Rat}(d:ltR a b)(e:ltR b c):ltR a c:=by
 unfold ltR at *;rcases d with d|⟨f,d⟩<;>rcases e with e|⟨g,e⟩
 ·exact .inl (ygy d e)
 ·exact .inl (by rw[<-g];exact d)
 ·exact .inl (by rw[f];exact e)
 ·exact .inr ⟨f.trans g,ygy d e⟩
def ymd(a b:Rat×Rat):ltR a b\/a=b\/ltR b a:=by
 rcases zlj a.1 b.1 with h|h|h
 ·exact .inl (.inl h)
 ·rcases zlj a.2 b.2 with k|k|k
  ·exact .inl (.inr ⟨h,k⟩)
  ·exact .inr (.inl (Ys h k))
  ·exact .inr (.inr (.inr ⟨h.symm,k⟩))
 ·exact .inr (.inr (.inl h))
def pshR(p q:Rat×Rat):Rat×Rat:=(q.1+p.1,q.2+p.2)
def rot{d:Type}(l:List d)(k:Nat):List d:=l.drop k++l.take k
def zfv{d:Type}{l:List d}{k:Nat}:(rot l k).length=l.length:=by
 unfold rot;rw[Yc,Yi,Wy];omega
def zlg{d:Type}{l:List d}{k i:Nat}(e:k<l.length)(f:i<l.length):(rot l k)[i]? = l[(i+k)%l.length]?:=by
 unfold rot;rcases Yd (i+k) l.length with h|h
 ·rw[Yt (by rw[Yi];omega),Um,Zm h,Gf]
 ·rw[Yg (by rw[Yi];omega),Yi,Jk vB,Jg h,Zm vB];congr 1
  omega
def rot_mem{d:Type}{l:List d}{k:Nat}{x:d}:x∈rot l k↔x∈l:=by
 unfold rot;rw[Y0,Or.comm,<-Y0,List.take_append_drop]
def zwq{d e:Type}(f:d->e)(l:List d)(k:Nat):(rot l k).map f=rot (l.map f) k:=by
 unfold rot;rw[Y7,Vz,Vy]
structure Fst(l:List (Rat×Rat))(k:Nat):Prop where
 lt:k<l.length
 low:∀j p q,j≠k->l[k]? = some p->l[j]? = some q->ltR p q
def IsShp.of_rot{l:List (Rat×Rat)}{k:Nat}(r:3<=l.length)(conv:∀k a b c,l[(k+l.length-1)%l.length]? = some a->l[k]? = some b->c∈l->c≠a->c≠b->0<oR a b c)(m:Fst l k):IsShp (rot l k):=by
 have d:=m.lt;refine⟨by rw[zfv];exact r,λj u q n f=>?_,λj a b c o g p s t=>?_⟩
 ·have h:j+1<l.length:=by
   have:=(Zo.mp f).1
   rw[zfv] at this;exact this
  rw[zlg d vB,Wc,Zm d] at n;rw[zlg d h] at f;refine m.low _ _ _ ?_ n f;rcases Yd (j+1+k) l.length with z|z
  ·rw[Zm z];omega
  ·rw[Jg z,Zm vB];omega
 ·have i:j<l.length:=by
   have:=(Zo.mp g).1
   rw[zfv] at this;exact this
  rw[zfv,zlg d (Wn _ vB)] at o;rw[zlg d i] at g;rw[rot_mem] at p;refine conv ((j+k)%l.length) a b c ?_ g p s t;rw[<-o];congr 1
  have e:((j+k)%l.length+l.length-1)%l.length=((j+k)%l.length+(l.length-1))%l.length:=by congr 1;omega
  rw[e,Ui,Uh,<-Ui,Ui ((j+l.length-1)%l.length),Uh,<-Ui];congr 1
  omega
namespace Mg
open DL
abbrev V:=Rat×Rat
def xr(u v:V):Rat:=u.1*v.2-u.2*v.1
def mn(a b:V):V:=(a.1-b.1,a.2-b.2)
def pl(a b:V):V:=(a.1+b.1,a.2+b.2)
def ng(u:V):V:=(-u.1,-u.2)
def up(u:V):Prop:=0<u.1\/(u.1=0/\0<u.2)
def zaf(u v:V):xr u v = - xr v u:=by unfold xr;grind
def zke(u v:V):xr (ng u) v = - xr u v:=by unfold xr ng;grind
def zkd(u v:V):xr u (ng v) = - xr u v:=by unfold xr ng;grind
def zvi(u v:V):xr (ng u) (ng v)=xr u v:=by unfold xr ng;grind
def yiu(u v w:V):xr u (pl v w)=xr u v+xr u w:=by unfold xr pl;grind
def ztn(u v w:V):xr (pl u v) w=xr u w+xr v w:=by unfold xr pl;grind
def zar{a b:Rat}(d:0<b)(h:0<=a*b):0<=a:=by
 by_cases k:0<=a
 ·exact k
 ·have:=Zz (show 0 < -a by grind) d
  grind
def up_1{u:V}(h:up u):0<=u.1:=by rcases h with h|h<;>grind
def ycb{u v w:V}(l:up u)(d:up v)(f:up w)(m:0<=xr u v)(n:0<=xr v w):0<=xr u w:=by
 have g:=up_1 l;have i:=up_1 f;rcases d with d|⟨v1,j⟩
 ·refine zar d ?_;have e:xr u w*v.1=xr u v*w.1+xr v w*u.1:=by unfold xr;grind
  rw[e];have a:=Zp m i;have b:=Zp n g;grind
 ·have o:w.1=0:=by
   have a:=Zp (Zu j) i;have e:xr v w = - (v.2*w.1):=by unfold xr;rw[v1];grind
   by_cases k:w.1=0
   ·exact k
   ·have:=Zz j (show 0<w.1 by grind)
    grind
  have p:0<w.2:=by rcases f with h|h<;>grind
  have e:xr u w=u.1*w.2:=by unfold xr;rw[o];grind
  rw[e];exact Zp g (Zu p)
def zrq{u v w:V}(d:up u)(e:up v)(f:up w)(h:0<xr u v)(g:0<=xr v w):0<xr u w:=by
 by_cases k:0<xr u w
 ·exact k
 ·have:=ycb e f d g (by rw[zaf];grind)
  rw[zaf] at this;grind
def zrp{u v w:V}(d:up u)(e:up v)(f:up w)(g:0<=xr u v)(h:0<xr v w):0<xr u w:=by
 by_cases k:0<xr u w
 ·exact k
 ·have:=ycb f d e (by rw[zaf];grind) g
  rw[zaf] at this;grind
def bf(u v:V):Prop:=(up u/\up (ng v))\/(up u/\up v/\0<xr u v)\/(up (ng u)/\up (ng v)/\0<xr u v)
def al(u v:V):Prop:=((up u/\up v)\/(up (ng u)/\up (ng v)))/\xr u v=0
def zah{u:V}(h:up u)(k:up (ng u)):False:=by
 unfold up ng at *;rcases h with h|h<;>rcases k with k|k<;>grind
def ztj{u v w:V}(h:bf u v)(k:bf v w):bf u w:=by
 rcases h with⟨a,b⟩|⟨a,b,c⟩|⟨a,b,c⟩<;>rcases k with⟨d,e⟩|⟨d,e,f⟩|⟨d,e,f⟩
 ·exact(zah d b).elim
 ·exact(zah d b).elim
 ·exact .inl ⟨a,e⟩
 ·exact .inl ⟨a,e⟩
 ·exact .inr (.inl ⟨a,e,zrq a b e c (Zu f)⟩)
 ·exact .inl ⟨a,e⟩
 ·exact(zah d b).elim
 ·exact(zah d b).elim
 ·refine .inr (.inr ⟨a,e,?_⟩);rw[<-zvi] at c f |-;exact zrq a b e c (Zu f)
def ypb{u v:V}(h:al u v):al v u:=⟨h.1.imp (λk=>⟨k.2,k.1⟩) (λk=>⟨k.2,k.1⟩),by rw[zaf,h.2];grind⟩
def al_bf{u v w:V}(h:al u v)(k:bf v w):bf u w:=by
 obtain⟨g,f⟩:=h
 rcases k with⟨a,b⟩|⟨a,b,c⟩|⟨a,b,c⟩<;>rcases g with⟨d,e⟩|⟨d,e⟩
 ·exact .inl ⟨d,b⟩
 ·exact(zah a e).elim
 ·exact .inr (.inl ⟨d,b,zrp d e b (by rw[f];exact Wq) c⟩)
 ·exact(zah a e).elim
 ·exact(zah e a).elim
 ·refine .inr (.inr ⟨d,b,?_⟩);rw[<-zvi] at c f |-;exact zrp d e b (by rw[f];exact Wq) c
structure Poly(P:Nat->V)(n:Nat):Prop where
 three:3<=n
 per:∀i,P (i+n)=P i
 conv:∀i k,0<=xr (mn (P (i+1)) (P i)) (mn (P k) (P i))
 turn:∀i,0<xr (mn (P (i+1)) (P i)) (mn (P (i+2)) (P (i+1)))
 fst:up (mn (P 1) (P 0))
 lst:up (ng (mn (P n) (P (n-1))))
 half:∀i,up (mn (P (i+1)) (P i))\/up (ng (mn (P (i+1)) (P i)))
 mono:∀i,i+1<n->up (ng (mn (P (i+1)) (P i)))->up (ng (mn (P (i+2)) (P (i+1))))
 low:∀k,0<k->k<n->up (mn (P k) (P 0))
def ed(P:Nat->V)(i:Nat):V:=mn (P (i+1)) (P i)
variable{P Q:Nat->V}{n m:Nat}
def Poly.next(h:Poly P n){i:Nat}(d:i+1<n):bf (ed P i) (ed P (i+1)):=by
 have t:=h.turn i;rcases h.half i with a|a
 ·rcases h.half (i+1) with b|b
  ·exact .inr (.inl ⟨a,b,t⟩)
  ·exact .inl ⟨a,b⟩
 ·exact .inr (.inr ⟨a,h.mono i d a,t⟩)
def Poly.edp(h:Poly P n)(i:Nat):ed P (i+n)=ed P i:=by
 unfold ed;rw[show i+n+1=i+1+n by omega,h.per,h.per]
def Poly.wrap(h:Poly P n):0<xr (ed P (n-1)) (ed P 0):=by
 have t:=h.turn (n-1);have:=h.three
 rw[show n-1+2=1+n by omega,show n-1+1=0+n by omega,h.per,h.per] at t;unfold ed;rw[show n-1+1=0+n by omega,h.per];exact t
def Poly.lst'(h:Poly P n):up (ng (ed P (n-1))):=by
 have:=h.three
 have t:=h.lst;unfold ed;rw[show n-1+1=n by omega];exact t
structure Inv(P Q:Nat->V)(n m i j:Nat):Prop where
 a:0<i->j<m->bf (ed P (i-1)) (ed Q j)
 b:0<j->i<n->bf (ed Q (j-1)) (ed P i)
def Inv.symm{i j:Nat}(h:Inv P Q n m i j):Inv Q P m n j i:=⟨h.b,h.a⟩
def apart(g:Poly Q m){i j:Nat}(I:Inv P Q n m i j)(h:i<n)(o:j<m)(a:up (ed P i))(b:up (ng (ed Q j))):0<xr (ed P i) (ed Q j):=by
 have f:0<j:=by
  rcases Qz j with e|e
  ·subst e;exact(zah g.fst b).elim
  ·exact e
 have t:=g.turn (j-1);rw[show j-1+2=j+1 by omega,show j-1+1=j by omega] at t;rcases I.b f h with⟨c,d⟩|⟨c,d,e⟩|⟨c,d,e⟩
 ·exact(zah a d).elim
 ·have:0<xr (ng (ed Q j)) (ed Q (j-1)):=by
   have l:ed Q (j-1)=mn (Q j) (Q (j-1)):=by unfold ed;rw[show j-1+1=j by omega]
   rw[zke,zaf,l];unfold ed;grind
  have:=zrq b c a this (Zu e)
  rw[zke,zaf] at this;grind
 ·exact(zah a d).elim
def ylg(d:Poly P n)(e:Poly Q m){i j:Nat}(I:Inv P Q n m i j)(f:i<n)(g:j<m):
  (0<xr (ed P i) (ed Q j)->bf (ed P i) (ed Q j))/\(xr (ed P i) (ed Q j)<0->bf (ed Q j) (ed P i))/\(xr (ed P i) (ed Q j)=0->al (ed P i) (ed Q j)):=by
 rcases d.half i with a|a<;>rcases e.half j with b|b
 ·exact⟨λh=>.inr (.inl ⟨a,b,h⟩),λh=>.inr (.inl ⟨b,a,by rw[zaf];grind⟩),λh=>⟨.inl ⟨a,b⟩,h⟩⟩
 ·have:=apart e I f g a b
  exact⟨λh=>.inl ⟨a,b⟩,λh=>by grind,λh=>by grind⟩
 ·have:=apart d I.symm g f b a
  rw[zaf] at this;exact⟨λh=>by grind,λh=>.inl ⟨b,a⟩,λh=>by grind⟩
 ·exact⟨λh=>.inr (.inr ⟨a,b,h⟩),λh=>.inr (.inr ⟨b,a,by rw[zaf];grind⟩),λh=>⟨.inr ⟨a,b⟩,h⟩⟩
end Mg
namespace Mg
open DL
variable{P Q:Nat->V}{n m:Nat}
def Poly.cone(h:Poly Q m)(j:Nat){g:V}(A:0<=xr g (ed Q j))(B:0<=xr (ed Q (j+m-1)) g)(k:Nat):0<=xr g (mn (Q k) (Q j)):=by
 have q:=h.three;have t:=h.turn (j+m-1);have i:=h.conv j k;have d:=h.conv (j+m-1) k;have f:j+m-1+1=j+m:=by omega
 have l:j+m-1+2=j+1+m:=by omega
 rw[f,l,h.per,h.per] at t;rw[f,h.per] at d;have n:ed Q (j+m-1)=mn (Q j) (Q (j+m-1)):=by unfold ed;rw[f,h.per]
 rw[n] at B;have o:ed Q j=mn (Q (j+1)) (Q j):=rfl;rw[o] at A;refine zar t ?_;generalize Q (j+m-1)=z at *;have p:xr (mn (Q j) z) (mn (Q k) z)=xr (mn (Q j) z) (mn (Q k) (Q j)):=by unfold xr mn;grind
 rw[p] at d;have e:xr g (mn (Q k) (Q j))*xr (mn (Q j) z) (mn (Q (j+1)) (Q j))=xr (mn (Q j) z) (mn (Q k) (Q j))*xr g (mn (Q (j+1)) (Q j))+xr (mn (Q (j+1)) (Q j)) (mn (Q k) (Q j))*xr (mn (Q j) z) g:=by unfold xr;grind
 rw[e];have a:=Zp d A;have b:=Zp i B;grind
def Poly.fst'(h:Poly Q m):up (ed Q 0):=h.fst
def Poly.pred(h:Poly Q m){j:Nat}(d:0<j):ed Q (j+m-1)=ed Q (j-1):=by
 rw[show j+m-1=j-1+m by omega,h.edp]
def Poly.turn'(h:Poly Q m){j:Nat}(d:0<j):0<xr (ed Q (j-1)) (ed Q j):=by
 have t:=h.turn (j-1);unfold ed;rw[show j-1+2=j+1 by omega,show j-1+1=j by omega] at t;rw[show j-1+1=j by omega];exact t
def sup(q:Poly P n)(f:Poly Q m){i j:Nat}(I:Inv P Q n m i j)(l:i<n)(o:j=m\/(j<m/\0<=xr (ed P i) (ed Q j))):
  0<=xr (ed P i) (ed Q j)/\0<xr (ed Q (j+m-1)) (ed P i):=by
 have C:=f.three;rcases o with e|⟨o,A⟩
 ·subst e;have r:=I.b vB l;have s:ed Q j=ed Q 0:=by have:=f.edp 0;rwa [Wc] at this
  rw[f.pred vB,s];have d:=f.lst';have w:=f.wrap;rcases r with⟨a,b⟩|⟨a,b,c⟩|⟨a,b,c⟩
  ·exact(zah a d).elim
  ·exact(zah a d).elim
  ·refine⟨?_,c⟩
   have g:0<xr (ed Q 0) (ng (ed Q (j-1))):=by rw[zkd,zaf];grind
   have v:0<xr (ng (ed Q (j-1))) (ng (ed P i)):=by rw[zvi];exact c
   have:=zrq f.fst' a b g (Zu v)
   rw[zkd,zaf] at this;grind
 ·refine⟨A,?_⟩
  have O:=ylg q f I l o;rcases Qz j with e|e
  ·subst e;have d:=f.lst';have w:=f.wrap;rw[Wc];have u:up (ed P i):=by
    by_cases k:0<xr (ed P i) (ed Q 0)
    ·rcases O.1 k with⟨a,_⟩|⟨a,_,_⟩|⟨_,b,_⟩
     ·exact a
     ·exact a
     ·exact(zah f.fst' b).elim
    ·rcases(O.2.2 (by grind)).1 with⟨a,_⟩|⟨_,b⟩
     ·exact a
     ·exact(zah f.fst' b).elim
   have g:0<xr (ed Q 0) (ng (ed Q (m-1))):=by rw[zkd,zaf];grind
   have:=zrp u f.fst' d A g
   rw[zkd,zaf] at this;grind
  ·rw[f.pred e];rcases I.b e l with⟨a,b⟩|⟨a,b,c⟩|⟨a,b,c⟩
   ·have z:up (ng (ed Q j)):=by
     by_cases k:0<xr (ed P i) (ed Q j)
     ·rcases O.1 k with⟨h,_⟩|⟨h,_,_⟩|⟨_,p,_⟩
      ·exact(zah h b).elim
      ·exact(zah h b).elim
      ·exact p
     ·rcases(O.2.2 (by grind)).1 with⟨h,_⟩|⟨_,p⟩
      ·exact(zah h b).elim
      ·exact p
    have t:=f.turn' e;have g:0<xr (ng (ed Q j)) (ed Q (j-1)):=by rw[zke,zaf];grind
    have B:0<=xr (ng (ed P i)) (ng (ed Q j)):=by rw[zvi];exact A
    have:=zrp b z a B g
    rw[zke,zaf] at this;grind
   ·exact c
   ·exact c
def Stp(P Q:Nat->V)(n m:Nat)(s t:Nat×Nat):Prop:=
 (t=(s.1+1,s.2)/\s.1<n/\(s.2=m\/(s.2<m/\0<xr (ed P s.1) (ed Q s.2)))) \/
 (t=(s.1,s.2+1)/\s.2<m/\(s.1=n\/(s.1<n/\xr (ed P s.1) (ed Q s.2)<0))) \/
 (t=(s.1+1,s.2+1)/\s.1<n/\s.2<m/\xr (ed P s.1) (ed Q s.2)=0)
def at2(P Q:Nat->V)(s:Nat×Nat):V:=pl (P s.1) (Q s.2)
def gw(P Q:Nat->V)(s t:Nat×Nat):V:=mn (at2 P Q t) (at2 P Q s)
def gw1(i j:Nat):gw P Q (i,j) (i+1,j)=ed P i:=by
 unfold gw at2 ed mn pl;exact Ys (by dsimp only;grind) (by dsimp only;grind)
def gw2(i j:Nat):gw P Q (i,j) (i,j+1)=ed Q j:=by
 unfold gw at2 ed mn pl;exact Ys (by dsimp only;grind) (by dsimp only;grind)
def gw3(i j:Nat):gw P Q (i,j) (i+1,j+1)=pl (ed P i) (ed Q j):=by
 unfold gw at2 ed mn pl;exact Ys (by dsimp only;grind) (by dsimp only;grind)
structure StepOk(P Q:Nat->V)(n m:Nat)(s t:Nat×Nat):Prop where
 inv:Inv P Q n m t.1 t.2
 lowP:∀k,0<=xr (gw P Q s t) (mn (P k) (P s.1))
 lowQ:∀k,0<=xr (gw P Q s t) (mn (Q k) (Q s.2))
 fromP:0<xr (ed P (s.1+n-1)) (gw P Q s t)
 fromQ:0<xr (ed Q (s.2+m-1)) (gw P Q s t)
def Poly.turnp(h:Poly Q m)(j:Nat):0<xr (ed Q (j+m-1)) (ed Q j):=by
 have d:=h.three;rcases Qz j with e|e
 ·subst e;rw[Wc];exact h.wrap
 ·rw[h.pred e];exact h.turn' e
def zsf(d:Poly P n)(f:Poly Q m){i j:Nat}(I:Inv P Q n m i j)(g:i<n)(o:j<=m)(l:j=m\/(j<m/\0<xr (ed P i) (ed Q j))):StepOk P Q n m (i,j) (i+1,j):=by
 have S:=sup d f I g (l.imp_right λh=>⟨h.1,Zu h.2⟩);refine⟨⟨λ_ h=>?_,λh k=>?_⟩,λk=>?_,λk=>?_,?_,?_⟩
 ·rw[Ur];rcases l with e|⟨p,q⟩
  ·exact absurd h (by dsimp only;omega)
  ·exact(ylg d f I g p).1 q
 ·exact ztj (I.b h g) (d.next k)
 ·rw[gw1];exact d.conv i k
 ·rw[gw1];exact f.cone j S.1 (Zu S.2) k
 ·rw[gw1];exact d.turnp i
 ·rw[gw1];exact S.2
def zlw(i j d e:Nat):gw Q P (j,i) (e,d)=gw P Q (i,j) (d,e):=by
 unfold gw at2 mn pl;exact Ys (by dsimp only;grind) (by dsimp only;grind)
def StepOk.swap{i j d e:Nat}(h:StepOk Q P m n (j,i) (e,d)):StepOk P Q n m (i,j) (d,e):=
 ⟨h.inv.symm,λk=>by have:=h.lowQ k;rwa [zlw] at this,λk=>by have:=h.lowP k;rwa [zlw] at this,by have:=h.fromQ;rwa [zlw] at this,by have:=h.fromP;rwa [zlw] at this⟩
def yao(d:Poly P n)(e:Poly Q m){i j:Nat}(I:Inv P Q n m i j)(f:i<n)(g:j<m)(l:xr (ed P i) (ed Q j)=0):StepOk P Q n m (i,j) (i+1,j+1):=by
 have S:=sup d e I f (.inr ⟨g,by rw[l];exact Wq⟩);have o:xr (ed Q j) (ed P i)=0:=by rw[zaf,l];grind
 have p:=sup e d I.symm g (.inr ⟨f,by rw[o];exact Wq⟩);have q:=(ylg d e I f g).2.2 l;refine⟨⟨λ_ h=>?_,λ_ k=>?_⟩,λk=>?_,λk=>?_,?_,?_⟩
 ·rw[Ur];exact al_bf q (e.next h)
 ·rw[Ur];exact al_bf (ypb q) (d.next k)
 ·rw[gw3,ztn];have a:=d.conv i k;have b:=d.cone i p.1 (Zu p.2) k;unfold ed at *;grind
 ·rw[gw3,ztn];have a:=e.conv j k;have b:=e.cone j S.1 (Zu S.2) k;unfold ed at *;grind
 ·rw[gw3,yiu];have a:=d.turnp i;have b:=p.2;grind
 ·rw[gw3,yiu];have a:=e.turnp j;have b:=S.2;grind
def zwe(d:Poly P n)(f:Poly Q m){s t:Nat×Nat}(I:Inv P Q n m s.1 s.2)(g:s.1<=n)(l:s.2<=m)(h:Stp P Q n m s t):StepOk P Q n m s t:=by
 obtain⟨i,j⟩:=s
 dsimp only at *;rcases h with⟨e,a,b⟩|⟨e,a,b⟩|⟨e,a,b,c⟩
 ·rw[e];exact zsf d f I a l b
 ·rw[e];exact(zsf f d I.symm a g (b.imp_right λk=>⟨k.1,by rw[zaf];have:=k.2;grind⟩)).swap
 ·rw[e];exact yao d f I a b c
end Mg
namespace Mg
open DL
variable{P Q:Nat->V}{n m:Nat}
def zht{a b:Rat}(d:0<b)(h:b*a=0):a=0:=by
 rcases zlj a 0 with k|k|k
 ·have:=Zz d (show 0 < -a by grind);grind
 ·exact k
 ·have:=Zz d k;grind
inductive Tr(P Q:Nat->V)(n m:Nat):Nat×Nat->List (Nat×Nat)->Prop
 |nil:Tr P Q n m (n,m) []
 |cons {s t l}:Inv P Q n m s.1 s.2->s.1<=n->s.2<=m->Stp P Q n m s t->Tr P Q n m t l->Tr P Q n m s (s::l)
end Mg
namespace Mg
open DL
variable{P Q:Nat->V}{n m:Nat}
def ltR_up{a b:V}:ltR a b↔up (mn b a):=by
 unfold ltR up mn;dsimp only;constructor
 ·rintro(h|⟨h,k⟩)
  ·exact .inl (by grind)
  ·exact .inr ⟨by grind,by grind⟩
 ·rintro(h|⟨h,k⟩)
  ·exact .inl (by grind)
  ·exact .inr ⟨by grind,by grind⟩
def zfz(u:V):mn u u=(0,0):=by unfold mn;exact Ys (by dsimp only;grind) (by dsimp only;grind)
end Mg
namespace Mg
open DL
variable{P Q:Nat->V}{n m:Nat}
def bend(P Q:Nat->V)(n m i j:Nat):Rat:=if j<m then(if i<n then xr (ed P i) (ed Q j) else -1) else 1
def nxt(P Q:Nat->V)(n m:Nat)(s:Nat×Nat):Nat×Nat:=(if 0<=bend P Q n m s.1 s.2 then s.1+1 else s.1,if bend P Q n m s.1 s.2<=0 then s.2+1 else s.2)
def walk(P Q:Nat->V)(n m:Nat):Nat->Nat×Nat->List (Nat×Nat)
 |0,_=>[]
 |k+1,s=>if s.1<n\/s.2<m then s::walk P Q n m k (nxt P Q n m s) else []
def yll{s:Nat×Nat}(f:s.1<=n)(g:s.2<=m)(h:s.1<n\/s.2<m):Stp P Q n m s (nxt P Q n m s):=by
 obtain⟨i,j⟩:=s
 unfold nxt Stp bend;dsimp only at *;by_cases d:j<m
 ·rw[if_pos d];by_cases e:i<n
  ·rw[if_pos e];rcases zlj (xr (ed P i) (ed Q j)) 0 with k|k|k
   ·rw[if_neg (by grind),if_pos (by grind)];exact .inr (.inl ⟨rfl,d,.inr ⟨e,k⟩⟩)
   ·rw[if_pos (by grind),if_pos (by grind)];exact .inr (.inr ⟨rfl,e,d,k⟩)
   ·rw[if_pos (by grind),if_neg (by grind)];exact .inl ⟨rfl,e,.inr ⟨d,k⟩⟩
  ·rw[if_neg e,if_neg vA,if_pos vA];exact .inr (.inl ⟨rfl,d,.inl vB⟩)
 ·rw[if_neg d,if_pos vA,if_neg vA];exact .inl ⟨rfl,by omega,.inl vB⟩
theorem zvm(g:Poly P n)(i:Poly Q m):∀(k:Nat){s:Nat×Nat},Inv P Q n m s.1 s.2->s.1<=n->s.2<=m->n+m<=k+s.1+s.2->Tr P Q n m s (walk P Q n m k s)
 |0,s,I,d,f,h=>by
  have:s=(n,m):=Ys (by dsimp only;omega) (by dsimp only;omega)
  subst this;exact .nil
 |k+1,s,I,d,f,h=>by
  unfold walk;by_cases c:s.1<n\/s.2<m
  ·rw[if_pos c];have S:=yll (P:=P) (Q:=Q) d f c;have O:=zwe g i I d f S;have b:(nxt P Q n m s).1<=n/\(nxt P Q n m s).2<=m/\s.1+s.2+1<=(nxt P Q n m s).1+(nxt P Q n m s).2:=by
    rcases S with⟨e,a,_⟩|⟨e,a,_⟩|⟨e,a,j,_⟩<;>rw[e]<;>dsimp only<;>omega
   exact .cons I d f S (zvm g i k O.inv b.1 b.2.1 vB)
  ·rw[if_neg c];have:s=(n,m):=Ys (by dsimp only;omega) (by dsimp only;omega)
   subst this;exact .nil
def yiv(d:Poly P n)(e:Poly Q m){k:Nat}(h:n+m<=k):Tr P Q n m (0,0) (walk P Q n m k (0,0)):=
 zvm d e k ⟨λh=>by omega,λh=>by omega⟩ (Yr _) (Yr _) (by dsimp only;omega)
def rnd(l:List V)(i:Nat):V:=l.getD (i%l.length) (0,0)
def zan{l:List V}(h:0<l.length)(i:Nat):l[i%l.length]? = some (rnd l i):=by
 unfold rnd;have:=Wn i h
 rw[Zi,Zg this];rfl
def Bz{l:List V}(h:0<l.length)(i:Nat):rnd l i∈l:=Yq (zan h i)
def zlh{l:List V}(d:l.Nodup)(h:0<l.length){i j:Nat}(e:rnd l i=rnd l j):i%l.length=j%l.length:=by
 have a:=zan h i;have b:=zan h j;have f:=Wn i h;rw[<-e,<-a] at b;exact((List.getElem?_inj f d).mp b.symm)
def yit(u:V):xr u u=0:=by unfold xr;grind
def xr_0(u:V):xr u (0,0)=0:=by unfold xr;grind
def ylx{e f d:V}(i:up e)(j:up (ng f))(hD:0<xr f e)(a:0<=xr f d)(b:0<=xr e d)(h:up (ng d)):False:=by
 have l:xr f e*d.1=xr f d*e.1+xr e d*(ng f).1:=by unfold xr ng;grind
 have p:xr f e*d.2=xr f d*e.2+xr e d*(ng f).2:=by unfold xr ng;grind
 generalize ng f=g at *;generalize xr f e=D at *;generalize xr f d=x at *;generalize xr e d=y at *;have m:=up_1 i;have n:=up_1 j;have q:=Zp a m;have r:=Zp b n;have s:0<=d.1:=zar hD (by grind);unfold up ng at h;dsimp only at h;rcases h with h|⟨h,o⟩
 ·grind
 ·have z:d.1=0:=by grind
  rw[z] at l;have t:x*e.1=0:=by grind
  have u:y*g.1=0:=by grind
  have v:0<=x*e.2:=by
   rcases i with k|⟨_,k⟩
   ·have:x=0:=zht k (by grind)
    rw[this];grind
   ·exact Zp a (Zu k)
  have w:0<=y*g.2:=by
   rcases j with k|⟨_,k⟩
   ·have:y=0:=zht k (by grind)
    rw[this];grind
   ·exact Zp b (Zu k)
  have:0<=d.2:=zar hD (by grind)
  grind
def zin{l:List V}(h:IsShp l)(q:l.Nodup):Poly (rnd l) l.length:=by
 have t:=h.three;have f:0<l.length:=by omega
 have per:∀i,rnd l (i+l.length)=rnd l i:=λi=>by unfold rnd;rw[Wr]
 have r:∀i k,rnd l k≠rnd l i->rnd l k≠rnd l (i+1)->0<oR (rnd l i) (rnd l (i+1)) (rnd l k):=λi k n o=>by
  refine h.conv ((i+1)%l.length) _ _ _ ?_ (zan f (i+1)) (Bz f k) n o;have:((i+1)%l.length+l.length-1)%l.length=i%l.length:=by
   have a:=Wn (i+1) f;have e:(i+1)%l.length+l.length-1=(i+1)%l.length+(l.length-1):=by omega
   rw[e,Qb,show i+1+(l.length-1)=i+l.length by omega,Wr]
  rw[this];exact zan f i
 have s:∀a b c:V,oR a b c=xr (mn b a) (mn c a):=λa b c=>by unfold oR xr mn;rfl
 have conv:∀i k,0<=xr (mn (rnd l (i+1)) (rnd l i)) (mn (rnd l k) (rnd l i)):=λi k=>by
  by_cases n:rnd l k=rnd l i
  ·rw[n,zfz,xr_0];exact Wq
  ·by_cases o:rnd l k=rnd l (i+1)
   ·rw[o,yit];exact Wq
   ·have:=r i k n o
    rw[s] at this;exact Zu this
 have m:∀i,rnd l (i+1)≠rnd l i:=λi e=>by
  have:=zlh q f e
  have a:=Wn i f;rw[<-Qb] at this;rcases Yd (i%l.length+1) l.length with k|k
  ·rw[Zm k] at this;omega
  ·rw[show i%l.length+1=l.length by omega,K3] at this;omega
 have p:∀i,rnd l (i+2)≠rnd l i:=λi e=>by
  have:=zlh q f e
  have a:=Wn i f;rw[<-Qb] at this;rcases Yd (i%l.length+2) l.length with k|k
  ·rw[Zm k] at this;omega
  ·rw[show i%l.length+2=i%l.length+2-l.length+l.length by omega,Wr,Zm vB] at this;omega
 have g:∀i,0<xr (mn (rnd l (i+1)) (rnd l i)) (mn (rnd l (i+2)) (rnd l (i+1))):=λi=>by
  have:=r i (i+2) (p i) (m (i+1))
  rw[s] at this;have e:xr (mn (rnd l (i+1)) (rnd l i)) (mn (rnd l (i+2)) (rnd l (i+1)))=xr (mn (rnd l (i+1)) (rnd l i)) (mn (rnd l (i+2)) (rnd l i)):=by
   generalize rnd l (i+1)=b;generalize rnd l (i+2)=c;unfold xr mn;grind
  rw[e];exact this
 have low:∀k,0<k->k<l.length->up (mn (rnd l k) (rnd l 0)):=λk C v=>by
  have a:=zan f 0;have b:=zan f k;rw[Gd] at a;rw[Zm v] at b;rw[show k=k-1+1 by omega] at b;rw[<-ltR_up];have:=h.first (k-1) _ _ a b
  rw[show k-1+1=k by omega] at this;exact this
 have j:∀i,up (mn (rnd l (i+1)) (rnd l i))\/up (ng (mn (rnd l (i+1)) (rnd l i))):=λi=>by
  rcases ymd (rnd l i) (rnd l (i+1)) with k|k|k
  ·exact .inl (ltR_up.mp k)
  ·exact absurd k.symm (m i)
  ·refine .inr ?_;have:=ltR_up.mp k
   have e:ng (mn (rnd l (i+1)) (rnd l i))=mn (rnd l i) (rnd l (i+1)):=by
    unfold ng mn;exact Ys (by dsimp only;grind) (by dsimp only;grind)
   rw[e];exact this
 refine⟨t,per,conv,g,low 1 vB vB,?_,j,?_,low⟩
 ·have e:=per 0;rw[Wc] at e;rw[e];have:=low (l.length-1) vB vB
  have e:ng (mn (rnd l 0) (rnd l (l.length-1)))=mn (rnd l (l.length-1)) (rnd l 0):=by
   unfold ng mn;exact Ys (by dsimp only;grind) (by dsimp only;grind)
  rw[e];exact this
 ·intro i w a;rcases j (i+1) with u|u
  ·exfalso
   have z:=low (i+1) vB w;have A:=conv (i+1) 0;have B:=conv i 0;refine ylx (d:=mn (rnd l 0) (rnd l (i+1))) u a (g i) ?_ A ?_
   ·have e:xr (mn (rnd l (i+1)) (rnd l i)) (mn (rnd l 0) (rnd l (i+1)))=xr (mn (rnd l (i+1)) (rnd l i)) (mn (rnd l 0) (rnd l i)):=by
     generalize rnd l (i+1)=b;generalize rnd l 0=c;unfold xr mn;grind
    rw[e];exact B
   ·have e:ng (mn (rnd l 0) (rnd l (i+1)))=mn (rnd l (i+1)) (rnd l 0):=by
     unfold ng mn;exact Ys (by dsimp only;grind) (by dsimp only;grind)
    rw[e];exact z
  ·exact u
end Mg
namespace Mg
open DL
def yma{l:List V}{c:V}(h:c∈l):∃k,rnd l k=c:=by
 obtain⟨k,d⟩:=W6 h
 have e:k<l.length:=by
  rcases Yd k l.length with h|h
  ·exact h
  ·rw[Yl h] at d;cases d
 refine⟨k,?_⟩
 have:=zan (by omega:0<l.length) k
 rw[Zm e,d] at this;exact(Z3 this).symm
end Mg
namespace Mg
open DL
def oR_xr(a b c:V):oR a b c=xr (mn b a) (mn c b):=by unfold oR xr mn;grind
def zws{l:List V}(h:IsShp l)(i:Nat){c:V}(f:c∈l)(g:c≠rnd l i)(j:c≠rnd l (i+1)):0<xr (mn (rnd l (i+1)) (rnd l i)) (mn c (rnd l (i+1))):=by
 have d:0<l.length:=by have:=h.three;omega
 have m:=zan d i;have n:=zan d (i+1);rw[<-oR_xr];refine h.conv ((i+1)%l.length) _ _ c ?_ n f g j;rw[<-m];congr 1
 have e:((i+1)%l.length+l.length-1)%l.length=(i+1+l.length-1)%l.length:=by
  rw[Bc vB,Qb,<-Bc vB]
 rw[e,show i+1+l.length-1=i+l.length by omega,Wr]
def zzh{l:List V}(h:IsShp l){k:Nat}(f:k+1<l.length):rnd l (k+1)≠rnd l 0:=λe=>by
 have d:0<l.length:=by omega
 have a:=zan d 0;have b:=zan d (k+1);rw[Gd] at a;rw[Zm f] at b;have:=h.first k _ _ a b
 rw[e] at this;exact zyi _ this
def zli{l:List V}(i:Nat):rnd l (i+l.length)=rnd l i:=by unfold rnd;rw[Wr]
def other{l:List V}(h:IsShp l)(a:V):∃c,c∈l/\c≠a:=by
 have d:=h.three;by_cases e:rnd l 0=a
 ·exact⟨rnd l 1,Bz vB 1,λz=>zzh h (show 0+1<l.length by omega) (by rw[e];exact z)⟩
 ·exact⟨_,Bz vB 0,e⟩
def ylm{l:List V}(h:IsShp l)(i:Nat):rnd l (i+1)≠rnd l i:=λe=>by
 obtain⟨c,f,d⟩:=other h (rnd l i)
 have:=zws h i f d (by rw[e];exact d)
 rw[e] at this;unfold xr mn at this;grind
def nx_uq{l r:List V}(f:IsShp l)(g:IsShp r)(h:∀c∈l,c∈r)(d:∀c∈r,c∈l){i j:Nat}(e:rnd l i=rnd r j):rnd l (i+1)=rnd r (j+1):=by
 refine Wa λm=>?_;have n:0<l.length:=by have:=f.three;omega
 have o:0<r.length:=by have:=g.three;omega
 have a:=zws f i (d _ (Bz o (j+1))) (by rw[e];exact ylm g j) (W5 m);have b:=zws g j (h _ (Bz n (i+1))) (by rw[<-e];exact ylm f i) m;rw[e] at a;have z:xr (mn (rnd l (i+1)) (rnd r j)) (mn (rnd r (j+1)) (rnd l (i+1))) = - xr (mn (rnd r (j+1)) (rnd r j)) (mn (rnd l (i+1)) (rnd r (j+1))):=by unfold xr mn;grind
 grind
theorem zxv{l r:List V}(g:IsShp l)(h:IsShp r)(f:∀c∈l,c∈r)(d:∀c∈r,c∈l){i j:Nat}(e:rnd l i=rnd r j):∀t,rnd l (i+t)=rnd r (j+t)
 |0=>e
 |t+1=>nx_uq g h f d (zxv g h f d e t)
def nodup{l:List V}(h:IsShp l):l.Nodup:=by
 refine Vi.mpr (Qi.mpr λi j d f n e=>?_);have g:0<l.length:=by omega
 have gi:=zan g i;have m:=zan g j;rw[Zm d,Zg d] at gi;rw[Zm f,Zg f] at m;have o:rnd l i=rnd l j:=by rw[<-Z3 gi,<-Z3 m,e]
 have:=zxv h h (λ_ z=>z) (λ_ z=>z) o (l.length-j)
 rw[show j+(l.length-j)=0+l.length by omega,zli] at this;obtain⟨k,p⟩:∃k,i+(l.length-j)=k+1:=⟨i+(l.length-j)-1,by omega⟩
 rw[p] at this;exact zzh h vB this
def eq_mem{l r:List V}(e:IsShp l)(f:IsShp r)(g:∀c∈l,c∈r)(d:∀c∈r,c∈l):l=r:=by
 have o:0<l.length:=by have:=e.three;omega
 have p:0<r.length:=by have:=f.three;omega
 have low:∀{m:List V},IsShp m->∀c∈m,c≠rnd m 0->ltR (rnd m 0) c:=λ{m} q c s h=>by
  have u:0<m.length:=by have:=q.three;omega
  obtain⟨k,j⟩:=W6 s
  have a:=zan u 0;rw[Gd] at a;cases k with
  |zero=>rw[j] at a;exact absurd (Z3 a) h
  |succ k=>exact q.first k _ _ a j
 have v:rnd l 0=rnd r 0:=Wa λh=>by
  have a:=low e _ (d _ (Bz p 0)) (W5 h);have b:=low f _ (g _ (Bz o 0)) h;exact zyi _ (zyh a b)
 have all:=zxv e f g d v;have len:∀{l r:List V},IsShp l->IsShp r->(∀t,rnd l (0+t)=rnd r (0+t)) -> ¬l.length<r.length:=λ{l r} e f all lt=>by
  have:=all l.length
  rw[zli,show rnd l 0=rnd r 0 from all 0,Wc] at this;obtain⟨k,j⟩:∃k,l.length=k+1:=⟨l.length-1,by have:=e.three;omega⟩
  rw[j] at this lt;exact zzh f lt this.symm
 have w:l.length=r.length:=by
  have a:=len e f all;have b:=len f e λt=>(all t).symm
  omega
 refine Qm λi=>?_;rcases Yd i l.length with n|n
 ·have a:=zan o i;have b:=zan p i;rw[Zm n] at a;rw[Zm vB] at b;have:=all i
  rw[Wc] at this;rw[a,b,this]
 ·rw[Yl n,Yl vB]
def Lo(l:List V)(d u:V):Prop:=u∈l/\∀c∈l,0<=xr d (mn c u)
def side{l:List V}(h:IsShp l)(i:Nat):∀c∈l,0<=xr (mn (rnd l (i+1)) (rnd l i)) (mn c (rnd l (i+1))):=λc f=>by
 by_cases d:c=rnd l i
 ·rw[d];unfold xr mn;grind
 ·by_cases e:c=rnd l (i+1)
  ·rw[e];unfold xr mn;grind
  ·exact Zu (zws h i f d e)
def side'{l:List V}(h:IsShp l)(i:Nat):∀c∈l,0<=xr (mn (rnd l (i+1)) (rnd l i)) (mn c (rnd l i)):=λc d=>by
 have:=side h i c d
 unfold xr mn at *;grind
def turnp{l:List V}(h:IsShp l)(i:Nat):0<xr (mn (rnd l (i+1)) (rnd l i)) (mn (rnd l (i+2)) (rnd l (i+1))):=by
 have f:=h.three;have d:0<l.length:=by omega
 refine zws h i (Bz d (i+2)) (λe=>?_) (ylm h (i+1));have:=zlh (nodup h) d e
 have g:=Wn i d;rw[Ui] at this;rcases Yd (i%l.length+2) l.length with k|k
 ·rw[Zm (show 2<l.length by omega),Zm k] at this;omega
 ·rw[Zm (show 2<l.length by omega),show i%l.length+2=(i%l.length+2-l.length)+l.length by omega,Wr,Zm vB] at this;omega
end Mg
namespace Mg
open DL
def Sm(l r:List V):Prop:=∀d,∃b g,Lo l d b/\Lo r d g/\xr d b=xr d g
theorem Sm.symm{l r:List V}(h:Sm l r):Sm r l:=λd=>by
 obtain⟨b,g,x,y,z⟩:=h d
 exact⟨g,b,y,x,z.symm⟩
def lo_eq{l:List V}{d u v:V}(h:Lo l d u)(k:Lo l d v):xr d u=xr d v:=by
 have a:=h.2 v k.1;have b:=k.2 u h.1;unfold xr mn at *;grind
def Sm.le{l r:List V}(h:Sm l r){d b:V}(f:Lo l d b):∀c∈r,0<=xr d (mn c b):=λc i=>by
 obtain⟨j,g,x,y,z⟩:=h d
 have e:=lo_eq f x;have:=y.2 c i
 unfold xr mn at *;grind
def Sm.at{l r:List V}(h:Sm l r){d b:V}(e:Lo l d b):∃g,Lo r d g/\xr d g=xr d b:=by
 obtain⟨f,g,x,y,z⟩:=h d
 exact⟨g,y,by rw[<-z];exact(lo_eq e x).symm⟩
def Sm.sub{l r:List V}(f:IsShp l)(h:Sm l r):∀c∈l,c∈r:=λb j=>by
 have F:0<l.length:=by have:=f.three;omega
 obtain⟨k,z⟩:=yma j
 have s:rnd l (k+l.length-1+1)=b:=by rw[show k+l.length-1+1=k+l.length by omega,zli,z]
 generalize k+l.length-1=i at s;have tp:=turnp f i;have n:=side f i;have m:=side' f (i+1);rw[show i+1+1=i+2 from rfl] at m;rw[s] at tp n m;generalize rnd l i=p at *;generalize rnd l (i+2)=q at *;have A:=h.le ⟨j,n⟩;have B:=h.le ⟨j,m⟩;obtain⟨g,o,C⟩:=h.at (d:=pl (mn b p) (mn q b)) (b:=b) ⟨j,λc t=>by
  rw[ztn];have:=n c t
  have:=m c t
  grind⟩
 have G:=A g o.1;have H:=B g o.1;rw[ztn,ztn] at C;have u:xr (mn b p) (mn g b)=0:=by unfold xr mn at *;grind
 have v:xr (mn q b) (mn g b)=0:=by unfold xr mn at *;grind
 have e:g=b:=by
  have D:(g.1-b.1)*xr (mn b p) (mn q b)=0:=by
   have:(g.1-b.1)*xr (mn b p) (mn q b)=(mn b p).1*xr (mn q b) (mn g b)*(-1)+(mn q b).1*xr (mn b p) (mn g b):=by unfold xr mn;grind
   rw[this,u,v];grind
  have E:(g.2-b.2)*xr (mn b p) (mn q b)=0:=by
   have:(g.2-b.2)*xr (mn b p) (mn q b)=(mn b p).2*xr (mn q b) (mn g b)*(-1)+(mn q b).2*xr (mn b p) (mn g b):=by unfold xr mn;grind
   rw[this,u,v];grind
  have w:xr (mn b p) (mn q b)≠0:=by grind
  have I:=(Kq.mp D).resolve_right w;have J:=(Kq.mp E).resolve_right w;exact Ys (by grind) (by grind)
 rw[<-e];exact o.1
def shp_eq{l r:List V}(d:IsShp l)(e:IsShp r)(h:Sm l r):l=r:=eq_mem d e (h.sub d) (h.symm.sub e)
def sc(x:Rat)(q:V):V:=(q.1*x,q.2*x)
end Mg
namespace Mg
open DL
end Mg
namespace Mg
open DL
end Mg
namespace Mg
open DL
end Mg
namespace Mg
open DL
variable{P Q:Nat->V}{n m:Nat}
def arF(P:Nat->V)(n:Nat):Nat->Rat
 |0=>0
 |c+1=>xr (ed P (n-(c+1))) (mn (P n) (P (n-c)))+arF P n c
def ygo{i:Nat}(h:i<n):arF P n (n-i)=xr (ed P i) (mn (P n) (P (i+1)))+arF P n (n-(i+1)):=by
 obtain⟨c,d⟩:∃c,n-i=c+1:=⟨n-i-1,by omega⟩
 rw[d];show xr (ed P (n-(c+1))) (mn (P n) (P (n-c)))+arF P n c=_;rw[show n-(c+1)=i by omega,show n-c=i+1 by omega,show n-(i+1)=c by omega]
def zdo(e:V):List V->Rat
 |[]=>0
 |[_]=>0
 |p::q::r=>xr (mn q p) (mn e q)+zdo e (q::r)
theorem Poly.srt(h:Poly P n){i:Nat}:∀{k:Nat},i<k->k<n->bf (ed P i) (ed P k)
 |0,a,_=>by omega
 |k+1,a,b=>by
  rcases Yd i k with c|c
  ·exact ztj (h.srt c vB) (h.next b)
  ·have:i=k:=by omega
   subst this;exact h.next b
end Mg
namespace Mg
open DL
def zpb{l:List V}{i:Nat}(h:i<l.length):at0 l i=rnd l i:=by unfold rnd;rw[Zm h]
theorem zsc{l:List V}:∀k,k+1<l.length->fanN l k+zdo (at0 l 0) (l.drop (k+1))=zdo (at0 l 0) l
 |0,h=>by
  match l,h with
  |p::q::r,_=>
   show(0:Rat)+zdo p (q::r)=xr (mn q p) (mn p q)+zdo p (q::r);unfold xr mn;grind
 |k+1,h=>by
  rw[<-zsc k vB];show fanN l k+oR (at0 l 0) (at0 l (k+1)) (at0 l (k+2))+_=_;have d:l.drop (k+1)=at0 l (k+1)::at0 l (k+2)::l.drop (k+3):=by
   rw[Yu (show k+1<l.length by omega),Yu (show k+1+1<l.length by omega)];unfold at0;rw[Zi,Zi,Zg (show k+1<l.length by omega),Zg (show k+2<l.length by omega)];rfl
  have f:l.drop (k+1+1)=at0 l (k+2)::l.drop (k+3):=by
   rw[Yu (show k+1+1<l.length by omega)];unfold at0;rw[Zi,Zg (show k+2<l.length by omega)];rfl
  rw[d,f];show _=fanN l k+(xr (mn (at0 l (k+2)) (at0 l (k+1))) (mn (at0 l 0) (at0 l (k+2)))+zdo (at0 l 0) (at0 l (k+2)::l.drop (k+3)));have e:oR (at0 l 0) (at0 l (k+1)) (at0 l (k+2))=xr (mn (at0 l (k+2)) (at0 l (k+1))) (mn (at0 l 0) (at0 l (k+2))):=by unfold oR xr mn;grind
  rw[e];grind
def last1{l:List V}(h:0<l.length):∃x,l.drop (l.length-1)=[x]:=List.length_eq_one_iff.mp (by rw[Yi];omega)
def zir{l:List V}(h:2<=l.length):sX l l.length=zdo (at0 l 0) l:=by
 rw[shoe h,<-zsc (l.length-2) vB];obtain⟨x,e⟩:=last1 (show 0<l.length by omega)
 rw[show l.length-2+1=l.length-1 by omega,e];show _=_+(0:Rat);grind
theorem ybg{l:List V}:∀c,c<l.length->arF (rnd l) l.length (c+1)=zdo (at0 l 0) (l.drop (l.length-(c+1)))
 |0,h=>by
  obtain⟨x,e⟩:=last1 (show 0<l.length by omega)
  rw[show l.length-(0+1)=l.length-1 by omega,e];show xr _ (mn (rnd l l.length) (rnd l (l.length-0)))+0=0;rw[Uy,zfz,xr_0];grind
 |c+1,h=>by
  show xr (ed (rnd l) (l.length-(c+1+1))) (mn (rnd l l.length) (rnd l (l.length-(c+1))))+arF (rnd l) l.length (c+1)=_;rw[ybg c vB];obtain⟨i,f⟩:∃i,l.length-(c+1+1)=i:=⟨_,rfl⟩
  have g:l.length-(c+1)=i+1:=by omega
  rw[f,g];have d:i+1<l.length:=by omega
  have j:l.drop i=at0 l i::at0 l (i+1)::l.drop (i+2):=by
   rw[Yu (show i<l.length by omega),Yu d];unfold at0;rw[Zi,Zi,Zg (show i<l.length by omega),Zg d];rfl
  have m:l.drop (i+1)=at0 l (i+1)::l.drop (i+2):=by
   rw[Yu d];unfold at0;rw[Zi,Zg d];rfl
  rw[j,m];show xr (mn (rnd l (i+1)) (rnd l i)) (mn (rnd l l.length) (rnd l (i+1)))+_=xr (mn (at0 l (i+1)) (at0 l i)) (mn (at0 l 0) (at0 l (i+1)))+zdo (at0 l 0) (at0 l (i+1)::l.drop (i+2));rw[zpb d,zpb (show i<l.length by omega),zpb (show 0<l.length by omega)];have:rnd l l.length=rnd l 0:=by have:=zli (l:=l) 0;rw[Wc] at this;exact this
  rw[this]
def ar_sX{l:List V}(h:2<=l.length):arF (rnd l) l.length l.length=sX l l.length:=by
 have:=ybg (l:=l) (l.length-1) vB
 rw[show l.length-1+1=l.length by omega,Nat.sub_self,Vn] at this;rw[this,zir h]
abbrev Ar(l:List V):Rat:=sX l l.length
end Mg
namespace Mg
open DL
theorem znu{e:V}{x:Rat}:∀l:List V,zdo (sc x e) (l.map (sc x))=x*x*zdo e l
 |[]=>by show(0:Rat)=x*x*0;grind
 |[_]=>by show(0:Rat)=x*x*0;grind
 |p::q::r=>by
  show xr (mn (sc x q) (sc x p)) (mn (sc x e) (sc x q))+zdo (sc x e) ((q::r).map (sc x))=x*x*(xr (mn q p) (mn e q)+zdo e (q::r));rw[znu (q::r)];unfold xr mn sc;grind
theorem znv{e d:V}:∀l:List V,zdo (pl d e) (l.map (pl d))=zdo e l
 |[]=>rfl
 |[_]=>rfl
 |p::q::r=>by
  show xr (mn (pl d q) (pl d p)) (mn (pl d e) (pl d q))+zdo (pl d e) ((q::r).map (pl d))=xr (mn q p) (mn e q)+zdo e (q::r);rw[znv (q::r)];unfold xr mn pl;grind
def zre{f:V->V}{l:List V}(h:0<l.length):at0 (l.map f) 0=f (at0 l 0):=by
 unfold at0;rw[Zi,Zj,Zi,Zg h];rfl
def yox{l:List V}(h:2<=l.length)(x:Rat):Ar (l.map (sc x))=x*x*Ar l:=by
 show sX (l.map (sc x)) (l.map (sc x)).length=x*x*sX l l.length;rw[zir (by rw[Zc];exact h),zir h,zre vB,znu]
def yoy{l:List V}(h:2<=l.length)(p:V):Ar (l.map (pl p))=Ar l:=by
 show sX (l.map (pl p)) (l.map (pl p)).length=sX l l.length;rw[zir (by rw[Zc];exact h),zir h,zre vB,znv]
def IsShp.sized{l:List V}{x:Rat}(m:IsShp l)(i:0<x):IsShp (l.map (sc x)):=by
 refine⟨by rw[Zc];exact m.three,λk a b d g=>?_,λk a b c d g s t u=>?_⟩
 ·rw[Zj] at d g;obtain⟨p,n,e⟩:=Zb.mp d
  obtain⟨q,o,j⟩:=Zb.mp g
  have:=m.first k p q n o
  rw[<-e,<-j];rcases this with h|⟨v,B⟩
  ·refine .inl ?_;show p.1*x<q.1*x;have:=Zz (show 0<q.1-p.1 by grind) i
   grind
  ·refine .inr ⟨by show p.1*x=q.1*x;rw[v],?_⟩;show p.2*x<q.2*x;have:=Zz (show 0<q.2-p.2 by grind) i
   grind
 ·rw[Zc,Zj] at d;rw[Zj] at g;obtain⟨p,n,e⟩:=Zb.mp d
  obtain⟨q,o,j⟩:=Zb.mp g
  obtain⟨z,A,r⟩:=Zq.mp s
  have:=m.conv k p q z n o A (λw=>t (by rw[<-r,w,e])) λw=>u (by rw[<-r,w,j])
  rw[<-e,<-j,<-r];have f:oR (sc x p) (sc x q) (sc x z)=x*x*oR p q z:=by unfold oR sc;grind
  rw[f];exact Zz (Zz i i) this
def IsShp.pushed{l:List V}(m:IsShp l)(i:V):IsShp (l.map (pl i)):=by
 refine⟨by rw[Zc];exact m.three,λk a b d g=>?_,λk a b c d g s t u=>?_⟩
 ·rw[Zj] at d g;obtain⟨p,n,e⟩:=Zb.mp d
  obtain⟨q,o,j⟩:=Zb.mp g
  have:=m.first k p q n o
  rw[<-e,<-j];unfold ltR pl at *;dsimp only;rcases this with h|⟨A,B⟩
  ·exact .inl (by grind)
  ·exact .inr ⟨by grind,by grind⟩
 ·rw[Zc,Zj] at d;rw[Zj] at g;obtain⟨p,n,e⟩:=Zb.mp d
  obtain⟨q,o,j⟩:=Zb.mp g
  obtain⟨z,v,r⟩:=Zq.mp s
  have:=m.conv k p q z n o v (λw=>t (by rw[<-r,w,e])) λw=>u (by rw[<-r,w,j])
  rw[<-e,<-j,<-r];have f:oR (pl i p) (pl i q) (pl i z)=oR p q z:=by unfold oR pl;grind
  rw[f];exact this
end Mg
namespace Mg
open DL
end Mg
namespace Mg
open DL
end Mg
namespace Mg
open DL
variable{P Q:Nat->V}{n m:Nat}
end Mg
namespace Mg
open DL
def zrf{l:List V}{i:Nat}(h:i<l.length):l[i]? = some (at0 l i):=by
 unfold at0;rw[Zi,Zg h];rfl
end Mg
namespace Lb
open DL
abbrev Pt:=Int×Int
def oI(a b c:Pt):Int:=(b.1-a.1)*(c.2-a.2)-(b.2-a.2)*(c.1-a.1)
def yhk(a b c:Pt):oI a b c=oI b c a:=by unfold oI;grind
def Tri:List Pt->Prop
 |[]=>True
 |x::l=>(l.Pairwise λy z=>0<oI x y z)/\Tri l
theorem Tri.get:∀{l:List Pt},Tri l->∀{i j k:Nat}{a b c:Pt},i<j->j<k->l[i]? = some a->l[j]? = some b->l[k]? = some c->0<oI a b c
 |[],_,_,_,_,_,_,_,_,_,h,_,_=>by simp at h
 |x::l,h,i,j,k,a,b,c,g,n,d,e,f=>by
  obtain⟨j,rfl⟩:∃m,j=m+1:=⟨j-1,by omega⟩
  obtain⟨k,rfl⟩:∃m,k=m+1:=⟨k-1,by omega⟩
  rw[Wm] at e f;cases i with
  |zero=>
   rw[Qr] at d;cases d;obtain⟨o,p⟩:=Zo.mp e
   obtain⟨q,r⟩:=Zo.mp f
   rw[<-p,<-r];exact Qi.mp h.1 j k o q vB
  |succ i=>
   rw[Wm] at d;exact Tri.get h.2 vB vB d e f
def Tri.conv{l:List Pt}(h:Tri l){k:Nat}{a b c:Pt}(d:l[(k+l.length-1)%l.length]? = some a)(f:l[k]? = some b)(i:c∈l)(g:c≠a)(j:c≠b):0<oI a b c:=by
 obtain⟨m,n,e⟩:=Ki i
 have gc:l[m]? = some c:=by rw[<-e];exact Zg n
 have o:=(Zo.mp f).1;have p:m≠k:=λz=>by rw[z,f] at gc;exact j (Z3 gc).symm
 rcases Qz k with z|z
 ·subst z;rw[Zm vB] at d;have mn:m≠0+l.length-1:=λz=>by rw[z,d] at gc;exact g (Z3 gc).symm
  rw[yhk];exact h.get (show 0<m by omega) (show m<0+l.length-1 by omega) f gc d
 ·rw[show k+l.length-1=(k-1)+l.length by omega,Wr,Zm vB] at d;have mn:m≠k-1:=λz=>by rw[z,d] at gc;exact g (Z3 gc).symm
  rcases Yd m (k-1) with q|q
  ·rw[<-yhk];exact h.get q (show k-1<k by omega) gc d f
  ·exact h.get (show k-1<k by omega) (show k<m by omega) d f gc
def oI_1(a b:Pt):oI a a b=0:=by unfold oI;grind
def oI_2(a b:Pt):oI a b b=0:=by unfold oI;grind
def oI_3(a b:Pt):oI a b a=0:=by unfold oI;grind
def Tri.nodup{l:List Pt}(h:Tri l)(r:3<=l.length):l.Nodup:=by
 refine Vi.mpr (Qi.mpr λi j f n d e=>?_);have g:∀m (o:m<l.length),l[m]? = some l[m]:=λm o=>Zg o
 rcases Yd (j+1) l.length with q|q
 ·have:=h.get d (show j<j+1 by omega) (g i f) (g j n) (g (j+1) q)
  rw[e,oI_1] at this;exact absurd this (Ut _)
 ·rcases Yd (i+1) j with p|p
  ·have:=h.get (show i<i+1 by omega) p (g i f) (g (i+1) vB) (g j n)
   rw[e,oI_3] at this;exact absurd this (Ut _)
  ·have:=h.get (show i-1<i by omega) d (g (i-1) vB) (g i f) (g j n)
   rw[e,oI_2] at this;exact absurd this (Ut _)
theorem Tri.app:∀{l m:List Pt},Tri l->Tri m->(l.Pairwise λx y=>∀z∈m,0<oI x y z)->(∀x∈l,m.Pairwise λy z=>0<oI x y z)->Tri (l++m)
 |[],m,_,h,_,_=>h
 |x::l,m,e,g,i,f=>by
  obtain⟨j,n⟩:=Y5.mp i
  exact⟨J3.mpr ⟨e.1,f x (.head _),λy d z o=>j y d z o⟩,Tri.app e.2 g n λy d=>f y (.tail _ d)⟩
def low2(x:Int):Pt:=(x,x*x)
def high2(t x:Int):Pt:=(x,t-x*x)
def o_lll(a b c:Int):oI (low2 a) (low2 b) (low2 c)=(b-a)*((c-a)*(c-b)):=by unfold oI low2;grind
def o_hhh(t a b c:Int):oI (high2 t a) (high2 t b) (high2 t c)=(a-b)*((a-c)*(b-c)):=by unfold oI high2;grind
def o_llh(t a b h:Int):oI (low2 a) (low2 b) (high2 t h)=(b-a)*(t-(h*h+(a+b)*h-a*b)):=by unfold oI low2 high2;grind
def o_lhh(t a g h:Int):oI (low2 a) (high2 t h) (high2 t g)=(h-g)*(t-(a*a+(g+h)*a-g*h)):=by unfold oI low2 high2;grind
theorem zvv:∀{d:List Int},d.Pairwise (· < ·)->Tri (d.map low2)
 |[],_=>True.intro
 |x::d,h=>by
  obtain⟨e,f⟩:=Y5.mp h
  refine⟨Ql.mpr ?_,zvv f⟩
  refine Q1 (λ{y z} g i q=>?_) f;have:=e y g
  have:=e z i
  rw[o_lll];exact Ws vB (Ws vB vB)
theorem zro{t:Int}:∀{d:List Int},d.Pairwise (· > ·)->Tri (d.map (high2 t))
 |[],_=>True.intro
 |x::d,h=>by
  obtain⟨e,f⟩:=Y5.mp h
  refine⟨Ql.mpr ?_,zro f⟩
  refine Q1 (λ{y z} g i q=>?_) f;have:=e y g
  have:=e z i
  rw[o_hhh];exact Ws vB (Ws vB vB)
def cube{m h a b:Int}(d : -m<=h)(f:h<=m)(g : -m<=a)(i:a<=m)(j : -m<=b)(l:b<=m):h*h+(a+b)*h-a*b<=2*(m*m):=by
 have n:=Yx (show 0<=m+h by omega) (Yx (show 0<=m-a by omega) (show 0<=m-b by omega));have o:=Yx (show 0<=m-h by omega) (Yx (show 0<=m+a by omega) (show 0<=m+b by omega));have p:=Yx (show 0<=2*m by omega) (Yx (show 0<=m-h by omega) (show 0<=m+h by omega));have e:2*m*(2*(m*m)-(h*h+(a+b)*h-a*b))=(m+h)*((m-a)*(m-b))+(m-h)*((m+a)*(m+b))+2*m*((m-h)*(m+h)):=by grind
 by_cases z:m=0
 ·have:h=0:=by omega
  have:a=0:=by omega
  have:b=0:=by omega
  subst_vars
  decide
 ·refine Ky.mp λq=>?_;have:=Vu (show 0<2*m by omega) (show 2*(m*m)-(h*h+(a+b)*h-a*b)<0 by omega)
  omega
def tri_bows{t m:Int}{j l:List Int}(n:j.Pairwise (· < ·))(o:l.Pairwise (· > ·))(d:∀x∈j,-m<=x/\x<=m)(by_:∀y∈l,-m<=y/\y<=m)(w:2*(m*m)<t):Tri (j.map low2++l.map (high2 t)):=by
 refine Tri.app (zvv n) (zro o) (Ql.mpr (Q1 (λ{a b} f r q z u=>?_) n)) λp v=>Ql.mpr ?_
 ·obtain⟨h,i,e⟩:=Zq.mp u
  rw[<-e,o_llh];have:=cube (by_ h i).1 (by_ h i).2 (d a f).1 (d a f).2 (d b r).1 (d b r).2
  exact Ws vB vB
 ·obtain⟨a,f,e⟩:=Zq.mp v
  refine Q1 (λ{h g} i s q=>?_) o;rw[<-e,o_lhh];have:=cube (d a f).1 (d a f).2 (by_ g s).1 (by_ g s).2 (by_ h i).1 (by_ h i).2
  exact Ws vB vB
def crP(u v:Pt):Int:=u.1*v.2-u.2*v.1
def tri_box{u v:Pt}(h:0<crP u v):Tri [(0,0),u,(u.1+v.1,u.2+v.2),v]:=by
 unfold crP at h;simp only[Tri,oI,Y5,Zh,Zr,or_false,forall_eq_or_imp,forall_eq,List.Pairwise.nil,and_true,true_and,false_implies,implies_true];refine⟨⟨⟨?_,?_⟩,?_⟩,?_⟩<;>grind
def tri_3{u v:Pt}(h:0<crP u v):Tri [(0,0),u,v]:=by
 unfold crP at h;simp only[Tri,oI,Y5,Zh,Zr,or_false,forall_eq_or_imp,forall_eq,List.Pairwise.nil,and_true,true_and,false_implies,implies_true];grind
def tri_6{u v:Pt}(h:0<crP u v):Tri [(0,0),u,(u.1+(u.1+v.1),u.2+(u.2+v.2)),(2*(u.1+v.1),2*(u.2+v.2)),(v.1+(u.1+v.1),v.2+(u.2+v.2)),v]:=by
 unfold crP at h;simp only[Tri,oI,Y5,Zh,Zr,or_false,forall_eq_or_imp,forall_eq,List.Pairwise.nil,and_true,true_and,false_implies,implies_true];refine⟨⟨⟨?_,?_,?_,?_⟩,⟨?_,?_,?_⟩,⟨?_,?_⟩,?_⟩,⟨⟨?_,?_,?_⟩,⟨?_,?_⟩,?_⟩,⟨⟨?_,?_⟩,?_⟩,?_⟩<;>grind
def spot2(b f g s:Int)(p:Pt):Rat×Rat:=(Rat.divInt (p.1*b+f) s,Rat.divInt (p.2*b+g) s)
def zjf(x y s:Int):Rat.divInt x s-Rat.divInt y s=((x-y:Int):Rat)*(s:Rat)⁻¹:=by
 rw[Y3,Y3,Yz,Yz,Ww];grind
def s_inv{s:Int}(d:1<=s):0<(s:Rat)⁻¹:=Kj.mpr (by have:((0:Int):Rat)<(s:Rat):=Z1.mpr vB;exact this)
def ydt{b f g s:Int}(j:1<=b)(i:1<=s){a c d:Pt}(h:0<oI a c d):0<oR (spot2 b f g s a) (spot2 b f g s c) (spot2 b f g s d):=by
 unfold oR spot2;dsimp only;rw[zjf,zjf,zjf,zjf];have k:=s_inv i;generalize (s:Rat)⁻¹=t at *;have e:(((c.1*b+f)-(a.1*b+f):Int):Rat)*t*((((d.2*b+g)-(a.2*b+g):Int):Rat)*t)-(((c.2*b+g)-(a.2*b+g):Int):Rat)*t*((((d.1*b+f)-(a.1*b+f):Int):Rat)*t)=t*t*(((b*b*oI a c d:Int)):Rat):=by
  unfold oI;simp only[Ww,Z4,Kr];grind
 rw[e];have q:(0:Int)<b*b*oI a c d:=Ws (Ws vB vB) h;exact Zz (Zz k k) (Z1.mpr q)
def ltP(a b:Pt):Prop:=a.1<b.1\/(a.1=b.1/\a.2<b.2)
def yeh{b f g s:Int}(m:1<=b)(d:1<=s){p q:Pt}(h:ltP p q):ltR (spot2 b f g s p) (spot2 b f g s q):=by
 have k:=s_inv d;have up:∀x y c:Int,x<y->Rat.divInt (x*b+c) s<Rat.divInt (y*b+c) s:=λx y c z=>by
  have e:=zjf (y*b+c) (x*b+c) s;have w:(0:Int)<(y*b+c)-(x*b+c):=by
   have:=Ws (show 0<y-x by omega) (show 0<b by omega)
   rw[Int.sub_mul] at this;omega
  have i:(0:Rat)<(((y*b+c)-(x*b+c):Int):Rat):=Z1.mpr w;have:=Zz i k
  grind
 unfold ltR spot2;rcases h with h|⟨j,l⟩
 ·exact .inl (up _ _ _ h)
 ·exact .inr ⟨by rw[j],up _ _ _ l⟩
structure LoP(R:List Pt)(k:Nat):Prop where
 lt:k<R.length
 low:∀j p q,j≠k->R[k]? = some p->R[j]? = some q->ltP p q
def shp2{R:List Pt}{k:Nat}(h:Tri R)(t:3<=R.length)(i:LoP R k){b f g s:Int}(l:1<=b)(m:1<=s):IsShp ((rot R k).map (spot2 b f g s)):=by
 rw[zwq];refine IsShp.of_rot (by rw[Zc];exact t) (λk a H c n d u v w=>?_) ⟨by rw[Zc];exact i.lt,λj p q A o r=>?_⟩
 ·rw[Zj,Zc] at n;rw[Zj] at d;obtain⟨I,B,rfl⟩:=Zb.mp n
  obtain⟨J,C,rfl⟩:=Zb.mp d
  obtain⟨K,e,rfl⟩:=Zq.mp u
  exact ydt l m (h.conv B C e (λz=>v (by rw[z])) λz=>w (by rw[z]))
 ·rw[Zj] at o r;obtain⟨D,E,rfl⟩:=Zb.mp o
  obtain⟨F,G,rfl⟩:=Zb.mp r
  exact yeh l m (i.low j D F A E G)
def yme(a b:Pt):ltP a b\/a=b\/ltP b a:=by
 unfold ltP;rcases Bg a.1 b.1 with h|h|h
 ·exact .inl (.inl h)
 ·rcases Bg a.2 b.2 with k|k|k
  ·exact .inl (.inr ⟨h,k⟩)
  ·exact .inr (.inl (Ys h k))
  ·exact .inr (.inr (.inr ⟨h.symm,k⟩))
 ·exact .inr (.inr (.inl h))
def ltP_trans{a b c:Pt}(d:ltP a b)(e:ltP b c):ltP a c:=by
 unfold ltP at *;omega
def ltP_irr(a:Pt):¬ltP a a:=by unfold ltP;omega
theorem lo_ex:∀{R:List Pt},R.Nodup->0<R.length->∃k,LoP R k
 |[],_,h=>absurd h vA
 |[p],_,_=>⟨0,K0 _,λj x y i _ d=>by
  cases j with
  |zero=>exact absurd rfl i
  |succ j=>simp at d⟩
 |p::q::R,o,_=>by
  obtain⟨n,r⟩:=W8.mp o
  obtain⟨k,f⟩:=lo_ex r (K0 _)
  have l:(q::R)[k]? = some ((q::R)[k]'f.lt):=Zg f.lt;have m:(q::R)[k]'f.lt∈q::R:=Kf f.lt;rcases yme p ((q::R)[k]'f.lt) with h|h|h
  ·refine⟨0,K0 _,λj x y i g d=>?_⟩
   cases j with
   |zero=>exact absurd rfl i
   |succ j=>
    rw[Qr] at g;rw[Wm] at d;cases g;by_cases e:j=k
    ·subst e;rw[l] at d;cases d;exact h
    ·exact ltP_trans h (f.low j _ _ e l d)
  ·rw[h] at n;exact absurd m n
  ·refine⟨k+1,Nat.succ_lt_succ f.lt,λj x y i g d=>?_⟩
   rw[Wm,l] at g;cases g;cases j with
   |zero=>rw[Qr] at d;cases d;exact h
   |succ j=>
    rw[Wm] at d;exact f.low j _ _ vB l d
end Lb
namespace Fi
open Mg
def nup{u:V}(h:up u)(k:up (ng u)):False:=by
 rcases h with h|⟨h,d⟩<;>rcases k with k|⟨k,e⟩<;>simp only[ng] at * <;> grind
def o1{j i k:V}(f:bf j i)(g:bf i k)(h:xr j i<=0):xr j k<=0:=by
 rcases f with⟨a,b⟩|⟨_,_,c⟩|⟨_,_,c⟩
 ·rcases g with⟨c,d⟩|⟨c,d,e⟩|⟨c,d,e⟩
  ·exact(nup c b).elim
  ·exact(nup c b).elim
  ·have x:=ycb a b d (by rw[zkd];grind) (by rw[zvi];exact Zu e);rw[zkd] at x;grind
 ·grind
 ·grind
def o2{j i k:V}(f:bf i k)(g:bf k j)(h:xr j i<=0):xr j k<=0:=by
 rcases g with⟨a,b⟩|⟨_,_,c⟩|⟨_,_,c⟩
 ·rcases f with⟨c,d⟩|⟨c,d,e⟩|⟨c,d,e⟩
  ·exact(nup a d).elim
  ·have x:=ycb b c d (by rw[zke];grind) (Zu e);rw[zke] at x;grind
  ·exact(nup a d).elim
 ·have:=zaf j k;grind
 ·have:=zaf j k;grind
def o3{j i k:V}(f:bf j i)(g:bf k j)(h:xr j i<=0):xr j k<=0:=by
 rcases f with⟨a,b⟩|⟨_,_,c⟩|⟨_,_,c⟩
 ·rcases g with⟨c,d⟩|⟨c,d,e⟩|⟨c,d,e⟩
  ·exact(nup a d).elim
  ·have:=zaf j k;grind
  ·exact(nup a d).elim
 ·grind
 ·grind
def hill{f s:Nat->Rat}{n:Nat}{e:Rat}(t:f 1=e)(u:f n=e)(up:∀i,1<=i->i<n->0<=s i->f i<=f (i+1))(v:∀i,1<=i->i<n->s i<=0->f (i+1)<=f i)
 (w:∀i k,1<=i->i<k->k<n->s i<=0->s k<=0)(i:Nat)(A:1<=i)(B:i<=n):e<=f i:=by
 have d:∀m,∀i,1<=i->i+m=n->(∀k,i<=k->k<n->s k<=0)->e<=f i:=by
  intro m;induction m with
  |zero=>intro i _ C _;rw[show i=n by omega,u];exact Wq
  |succ m o=>
   intro i g C j;have a:=o (i+1) vB vB (λk r=>j k vB);have b:=v i g vB (j i (Zl _) vB);exact Jx a b
 have p:∀m,m+1<=n->(∀k,1<=k->k<m+1->0<=s k)->e<=f (m+1):=by
  intro m;induction m with
  |zero=>intro _ _;rw[t];exact Wq
  |succ m o=>
   intro F j;have a:=o vB (λk g r=>j k g vB);have b:=up (m+1) vB vB (j (m+1) vB vB);exact Jx a b
 by_cases h:∃k,1<=k/\k<i/\s k<=0
 ·obtain⟨k,D,G,E⟩:=h
  exact d (n-i) i A vB (λl H q=>w k l D vB q E)
 ·have:=p (i-1) vB (λk g r=>by
   by_cases z:0<=s k
   ·exact z
   ·exact(h ⟨k,g,by omega,by grind⟩).elim)
  rwa [show i-1+1=i by omega] at this
def yis(u v:V)(m:Rat)(p:V):xr u (pl p (m*v.1,m*v.2))=xr u p+m*xr u v:=by unfold xr pl;grind
def keeps{D P:Nat->V}{E:Nat->Rat}{n:Nat}(hD:∀i k,i<k->k<n->bf (D i) (D k))(p:∀i,i<n->xr (D i) (P i)=E i)(h:∀i,i<n->∃m,0<=m/\P ((i+1)%n)=pl (P i) (m*(D i).1,m*(D i).2))
 (i j:Nat)(q:i<n)(g:j<n):E j<=xr (D j) (P i):=by
 have self:∀u:V,xr u u=0:=λu=>by unfold xr;grind
 have key:=hill (f:=λi=>xr (D j) (P ((j+i)%n))) (s:=λi=>xr (D j) (D ((j+i)%n))) (n:=n) (e:=E j) ?_ ?_ ?_ ?_ ?_
 ·-- t place C i behind j
  by_cases z:j<i
  ·have:=key (i-j) vB vB
   rwa [show j+(i-j)=i by omega,Zm q] at this
  ·have:=key (n-j+i) vB vB
   rwa [show j+(n-j+i)=i+n by omega,Wr,Zm q] at this
 ·obtain⟨m,_,e⟩:=h j g
  show xr (D j) (P ((j+1)%n))=E j;rw[e,yis,p j g,self];grind
 ·show xr (D j) (P ((j+n)%n))=E j;rw[Wr,Zm g,p j g]
 ·intro i r l d;obtain⟨m,o,e⟩:=h ((j+i)%n) (Wn _ vB)
  show xr (D j) (P ((j+i)%n))<=xr (D j) (P ((j+(i+1))%n));rw[show(j+(i+1))%n=((j+i)%n+1)%n by rw[Qb];rfl,e,yis];have:=Zp o d
  grind
 ·intro i r l d;obtain⟨m,o,e⟩:=h ((j+i)%n) (Wn _ vB)
  show xr (D j) (P ((j+(i+1))%n))<=xr (D j) (P ((j+i)%n));rw[show(j+(i+1))%n=((j+i)%n+1)%n by rw[Qb];rfl,e,yis];have:=Zp o (show 0 <= - xr (D j) (D ((j+i)%n)) by grind)
  grind
 ·intro i k r v w d;show xr (D j) (D ((j+k)%n))<=0;have d:xr (D j) (D ((j+i)%n))<=0:=d;by_cases a:j+k<n
  ·rw[Zm a];rw[Zm vB] at d;exact o1 (hD _ _ vB vB) (hD (j+i) (j+k) vB a) d
  ·have A:(j+k)%n=j+k-n:=by rw[Jg vB,Zm vB]
   rw[A];by_cases b:j+i<n
   ·rw[Zm b] at d;exact o3 (hD _ _ vB b) (hD (j+k-n) j vB g) d
   ·have B:(j+i)%n=j+i-n:=by rw[Jg vB,Zm vB]
    rw[B] at d;exact o2 (hD (j+i-n) (j+k-n) vB vB) (hD (j+k-n) j vB g) d
def gg(a b c:V)(d e f:Rat):Rat:=xr b c*d+xr c a*e+xr a b*f
def len{a b c p q:V}{f d h:Rat}(j:0<xr a b)(l:0<xr b c)(r:xr a p=f)(i:xr b p=d)(s:xr b q=d)(t:xr c q=h)(z:gg a b c f d h<=0):
  ∃m,0<=m/\q=pl p (m*b.1,m*b.2):=by
 have n:0<xr a b*xr b c:=Zz j l;have u:xr a b*xr b c≠0:=by grind
 refine⟨- gg a b c f d h*(xr a b*xr b c)⁻¹,Zp (by grind) (Zu (Kj.mpr n)),?_⟩
 have o:=Y6 _ u;generalize B:(xr a b*xr b c)⁻¹=I at o |-;have v:(xr a b*xr b c)*(q.1-p.1) = - gg a b c f d h*b.1:=by
  unfold gg;rw[<-r,<-i,<-t];have e:xr b q=xr b p:=s.trans i.symm;unfold xr at *;grind
 have w:(xr a b*xr b c)*(q.2-p.2) = - gg a b c f d h*b.2:=by
  unfold gg;rw[<-r,<-i,<-t];have e:xr b q=xr b p:=s.trans i.symm;unfold xr at *;grind
 generalize gg a b c f d h=g at *;generalize xr a b*xr b c=A at *;apply Ys
 ·show q.1=p.1 + -g*I*b.1;have:I*(A*(q.1-p.1))=I*(-g*b.1):=by rw[v]
  grind
 ·show q.2=p.2 + -g*I*b.2;have:I*(A*(q.2-p.2))=I*(-g*b.2):=by rw[w]
  grind
end Fi
namespace Fi
open Mg
def nx(n i:Nat):Nat:=if i+1=n then 0 else i+1
def pv(n i:Nat):Nat:=if i=0 then n-1 else i-1
def er(k i:Nat):Nat:=if i<k then i else i+1
def zgv{n i:Nat}(h:i<n):nx n i<n:=by unfold nx;split<;>omega
def zfw{n i:Nat}(h:i<n):pv n i<n:=by unfold pv;split<;>omega
def zdj{n k i:Nat}(d:k<n)(h:i<n-1):er k i<n:=by unfold er;split<;>omega
def er_ne{k i:Nat}:er k i≠k:=by unfold er;split<;>omega
def zzn{k i j:Nat}(h:i<j):er k i<er k j:=by unfold er;split<;>split<;>omega
def ynm{n k i:Nat}(d:3<=n)(e:k<n)(h:i<n-1):er k (nx (n-1) i)=if nx n (er k i)=k then nx n k else nx n (er k i):=by
 unfold nx er;repeat' split
 all_goals omega
def er_pv{n k i:Nat}(d:3<=n)(e:k<n)(h:i<n-1):er k (pv (n-1) i)=if pv n (er k i)=k then pv n k else pv n (er k i):=by
 unfold pv er;repeat' split
 all_goals omega
def ydv{n i:Nat}(h:i<n):nx n (pv n i)=i:=by
 unfold nx pv;repeat' split
 all_goals omega
def ydi{n i:Nat}(h:i<n):pv n (nx n i)=i:=by
 unfold nx pv;repeat' split
 all_goals omega
def zlk{n i:Nat}(d:3<=n)(h:i<n):pv n i≠nx n i:=by
 unfold nx pv;repeat' split
 all_goals omega
def nx_mod{n i:Nat}(h:i<n):nx n i=(i+1)%n:=by
 unfold nx;split
 ·next e=>rw[e,K3]
 ·rw[Zm vB]
def ee(c l:Nat->Rat)(t:Rat)(i:Nat):Rat:=c i-t*l i
def gi(D:Nat->V)(c l:Nat->Rat)(n:Nat)(t:Rat)(i:Nat):Rat:=gg (D (pv n i)) (D i) (D (nx n i)) (ee c l t (pv n i)) (ee c l t i) (ee c l t (nx n i))
structure Ok(D:Nat->V)(c l:Nat->Rat)(n:Nat)(t:Rat):Prop where
 three:3<=n
 srt:∀i k,i<k->k<n->bf (D i) (D k)
 bend:∀i,i<n->0<xr (D i) (D (nx n i))
 lens:∀i,i<n->gi D c l n t i<=0
def ymp{a b c d:V}{f e g ed:Rat}(h:gg b c d e g ed=0):xr b c*gg a b d f e ed=xr b d*gg a b c f e g:=by
 unfold gg xr at *;grind
def yew{b c d f:V}{e g ed h:Rat}(i:gg b c d e g ed=0):xr c d*gg b d f e ed h=xr b d*gg c d f g ed h:=by
 unfold gg xr at *;grind
def zoi{A B g d:Rat}(f:0<A)(i:0<B)(e:A*d=B*g)(h:g<=0):d<=0:=by
 have a:=Zp (Zu i) (show 0 <= -g by grind);have:0 <= -d:=zar f (by grind)
 grind
def Ok.drop{D:Nat->V}{c l:Nat->Rat}{n k:Nat}{t o:Rat}(O:Ok D c l n t)(d:k<n)(r:∀i,i<n->gi D c l n o i<=0)(q:gi D c l n o k=0)(A:xr (D (nx n k)) (D (pv n k))<0):
  Ok (λi=>D (er k i)) (λi=>c (er k i)) (λi=>l (er k i)) (n-1) o/\4<=n:=by
 have h:0<xr (D (pv n k)) (D (nx n k)):=by rw[zaf];grind
 have p:4<=n:=by
  rcases Yd 3 n with z|z
  ·exact z
  ·have w:n=3:=by have:=O.three;omega
   have:=O.bend (nx n k) (zgv d)
   have e:nx n (nx n k)=pv n k:=by
    subst w;unfold nx pv;repeat' split
    all_goals omega
   rw[e] at this;grind
 refine⟨⟨by omega,λi j s f=>O.srt _ _ (zzn s) (zdj d f),λi m=>?_,λi m=>?_⟩,p⟩
 ·show 0<xr (D (er k i)) (D (er k (nx (n-1) i)));rw[ynm O.three d m];split
  ·next z=>
   have:er k i=pv n k:=by
    have:=ydi (zdj d m)
    rw[z] at this;exact this.symm
   rw[this];exact h
  ·exact O.bend _ (zdj d m)
 ·show gg (D (er k (pv (n-1) i))) (D (er k i)) (D (er k (nx (n-1) i))) (ee c l o (er k (pv (n-1) i))) (ee c l o (er k i)) (ee c l o (er k (nx (n-1) i)))<=0;rw[ynm O.three d m,er_pv O.three d m];have f:=zdj d m;have B:=er_ne (k:=k) (i:=i);generalize er k i=j at *;split
  ·next z=>
   have u:j=nx n k:=by
    have:=ydv f
    rw[z] at this;exact this.symm
   subst u;rw[if_neg (λy=>by
    have:=zlk O.three f
    rw[z,y] at this;exact this rfl)]
   have g:=r (nx n k) f;unfold gi at g q;rw[z] at g;exact zoi (O.bend k d) h (yew q) g
  ·next z=>
   split
   ·next y=>
    have u:j=pv n k:=by
     have:=ydi f
     rw[y] at this;exact this.symm
    subst u;have g:=r (pv n k) f;unfold gi at g q;rw[y] at g;have v:=O.bend (pv n k) f;rw[y] at v;exact zoi v h (ymp q) g
   ·exact r j f
def still{D:Nat->V}{c l:Nat->Rat}{n k:Nat}{s:Rat}{x:V}(j:xr (D (nx n k)) (D (pv n k))<0)(d:0<xr (D (pv n k)) (D k))(f:0<xr (D k) (D (nx n k)))(g:0<=gi D c l n s k)
 (o:ee c l s (pv n k)<=xr (D (pv n k)) x)(p:ee c l s (nx n k)<=xr (D (nx n k)) x):ee c l s k<=xr (D k) x:=by
 unfold gi gg at g;generalize D (pv n k)=a at *;generalize D (nx n k)=b at *;generalize D k=m at *;generalize ee c l s (pv n k)=h at *;generalize ee c l s (nx n k)=i at *;generalize ee c l s k=em at *;have q:=Zp (Zu f) (show 0<=xr a x-h by grind);have r:=Zp (Zu d) (show 0<=xr b x-i by grind);have e:xr m b*xr a x+xr a m*xr b x = - xr b a*xr m x:=by unfold xr;grind
 have:0<=xr m x-em:=zar (b:=- xr b a) (by grind) (by grind)
 grind
end Fi
namespace Fi
open Mg
def mt(a b:V)(d e:Rat):V:=((d*b.1-e*a.1)*(xr a b)⁻¹,(d*b.2-e*a.2)*(xr a b)⁻¹)
def mt_l{a b:V}{d e:Rat}(h:0<xr a b):xr a (mt a b d e)=d:=by
 have i:=Y6 _ (show xr a b≠0 by grind);unfold mt;generalize f:(xr a b)⁻¹=I at *;have:xr a ((d*b.1-e*a.1)*I,(d*b.2-e*a.2)*I)=d*(xr a b*I):=by unfold xr;grind
 rw[this,i];grind
def mt_r{a b:V}{e d:Rat}(h:0<xr a b):xr b (mt a b e d)=d:=by
 have i:=Y6 _ (show xr a b≠0 by grind);unfold mt;generalize f:(xr a b)⁻¹=I at *;have:xr b ((e*b.1-d*a.1)*I,(e*b.2-d*a.2)*I)=d*(xr a b*I):=by unfold xr;grind
 rw[this,i];grind
section
variable{D:Nat->V}{c l:Nat->Rat}{n:Nat}{t:Rat}
def mi(D:Nat->V)(c l:Nat->Rat)(n:Nat)(t:Rat)(i:Nat):V:=mt (D (pv n i)) (D i) (ee c l t (pv n i)) (ee c l t i)
def Ok.bendp(O:Ok D c l n t){i:Nat}(d:i<n):0<xr (D (pv n i)) (D i):=by
 have:=O.bend (pv n i) (zfw d)
 rwa [ydv d] at this
theorem Ok.keeps(O:Ok D c l n t)(i j:Nat)(d:i<n)(e:j<n):ee c l t j<=xr (D j) (mi D c l n t i):=by
 refine Fi.keeps (D:=D) (P:=mi D c l n t) (E:=ee c l t) O.srt (λi d=>mt_r (O.bendp d)) (λi d=>?_) i j d e;rw[<-nx_mod d];refine Fi.len (O.bendp d) (O.bend i d) (mt_l (O.bendp d)) (mt_r (O.bendp d)) ?_ ?_ (O.lens i d)
 ·unfold mi;rw[ydi d];exact mt_l (O.bend i d)
 ·unfold mi;rw[ydi d];exact mt_r (O.bend i d)
def tp(D:Nat->V)(c:Nat->Rat)(n i:Nat):Rat:=- gg (D (pv n i)) (D i) (D (nx n i)) (c (pv n i)) (c i) (c (nx n i))
def zzc{i:Nat}:gi D c l n t i=t*tp D l n i-tp D c n i:=by unfold gi tp gg ee;grind
def Span(D:Nat->V)(n:Nat):Prop:=∀u:V,(∀i,i<n->0<=xr (D i) u)->u=(0,0)
def Span.drop{k:Nat}(S:Span D n)(O:Ok D c l n t)(f:k<n)(e:xr (D (nx n k)) (D (pv n k))<0):Span (λi=>D (er k i)) (n-1):=λu h=>by
 have all:∀j,j<n->j≠k->0<=xr (D j) u:=λj g m=>by
  rcases Yd j k with z|z
  ·have:=h j vB
   simp only[er,if_pos z] at this;exact this
  ·have:=h (j-1) vB
   simp only[er,if_neg (show ¬j-1<k by omega),show j-1+1=j by omega] at this;exact this
 refine S u λi d=>?_;by_cases z:i=k
 ·subst z;have a:=all (pv n i) (zfw d) (by unfold pv;have:=O.three;split<;>omega);have b:=all (nx n i) (zgv d) (by unfold nx;have:=O.three;split<;>omega);have:=still (c:=λ_=>0) (l:=λ_=>0) (s:=0) (x:=u) e (O.bendp d) (O.bend i d) (by unfold gi gg ee;grind) (by unfold ee;grind) (by unfold ee;grind)
  unfold ee at this;grind
 ·exact all i d z
def Ok.some(O:Ok D c l n t)(S:Span D n){v e:V}(f:v≠e)(g:∀i,i<n->l i<=xr (D i) v)(h:∀i,i<n->l i<=xr (D i) e):∃i,i<n/\0<tp D l n i:=by
 apply Wa
 intro m;have o:Ok D (λi=>- l i) (λ_=>0) n 0:=⟨O.three,O.srt,O.bend,λi d=>by
  have:¬0<tp D l n i:=λz=>m ⟨i,d,z⟩
  unfold tp at this;unfold gi gg ee at *;grind⟩
 have q:0<n:=by have:=O.three;omega
 have k:=λj r=>o.keeps 0 j q r
 generalize mi D (λi=>- l i) (λ_=>0) n 0 0=p at k;have key:∀w:V,(∀i,i<n->l i<=xr (D i) w)->w=ng p:=λw s=>by
  have:=S (pl w p) (λi d=>by
   have a:=s i d;have b:=k i d;unfold ee at b;rw[yiu];grind)
  have u:w.1+p.1=0:=congrArg Prod.fst this;have A:w.2+p.2=0:=congrArg Prod.snd this;apply Ys
  ·show w.1 = - p.1;grind
  ·show w.2 = - p.2;grind
 exact f ((key v g).trans (key e h).symm)
def Ok.until(O:Ok D c l n t){k:Nat}{d:Rat}(h:k<n)(j:0<tp D l n k)(p:d*tp D l n k=tp D c n k)(m:∀i,i<n->0<tp D l n i->d*tp D l n i<=tp D c n i):
  t<=d/\(∀i,i<n->gi D c l n d i<=0)/\gi D c l n d k=0:=by
 have g:=O.lens k h;rw[zzc] at g;have o:t<=d:=by
  by_cases z:t<=d
  ·exact z
  ·have:=Zz (show 0<t-d by grind) j
   grind
 refine⟨o,λi f=>?_,by rw[zzc];grind⟩
 have e:=O.lens i f;rw[zzc] at e |-;by_cases z:0<tp D l n i
 ·have:=m i f z;grind
 ·have:=Zp (show 0<=d-t by grind) (show 0 <= - tp D l n i by grind)
  grind
def Ok.back(O:Ok D c l n t){k:Nat}{e s:Rat}{x:V}(m:k<n)(f:0<tp D l n k)(o:e*tp D l n k=tp D c n k)(p:e<=s)(g:xr (D (nx n k)) (D (pv n k))<0)
 (h:∀i,i<n-1->ee c l s (er k i)<=xr (D (er k i)) x):∀i,i<n->ee c l s i<=xr (D i) x:=λi d=>by
 have all:∀j,j<n->j≠k->ee c l s j<=xr (D j) x:=λj q r=>by
  rcases Yd j k with z|z
  ·have:=h j vB
   simp only[er,if_pos z] at this;exact this
  ·have:=h (j-1) vB
   simp only[er,if_neg (show ¬j-1<k by omega),show j-1+1=j by omega] at this;exact this
 by_cases z:i=k
 ·subst z;have:=Zp (show 0<=s-e by grind) (Zu f)
  exact still g (O.bendp d) (O.bend i d) (by rw[zzc];grind) (all _ (zfw d) (by unfold pv;have:=O.three;split<;>omega)) (all _ (zgv d) (by unfold nx;have:=O.three;split<;>omega))
 ·exact all i d z
end
end Fi
namespace Fi
open Mg
def sm(m:Rat)(u:V):V:=(m*u.1,m*u.2)
def ztr{m:Rat}{u:V}(h:0<m)(k:up u):up (sm m u):=by
 rcases k with k|⟨k,d⟩
 ·exact .inl (Zz h k)
 ·exact .inr ⟨by show m*u.1=0;rw[k];grind,Zz h d⟩
def yls{m:Rat}{u:V}:ng (sm m u)=sm m (ng u):=by unfold ng sm;exact Ys (by dsimp only;grind) (by dsimp only;grind)
def zvh{m k:Rat}{u v:V}:xr (sm m u) (sm k v)=m*k*xr u v:=by unfold xr sm;grind
def zdl{m:Rat}{u v:V}:xr (sm m u) v=m*xr u v:=by unfold xr sm;grind
def bf_sm{m k:Rat}{u v:V}(d:0<m)(e:0<k)(h:bf u v):bf (sm m u) (sm k v):=by
 rcases h with⟨a,b⟩|⟨a,b,c⟩|⟨a,b,c⟩
 ·exact .inl ⟨ztr d a,by rw[yls];exact ztr e b⟩
 ·exact .inr (.inl ⟨ztr d a,ztr e b,by rw[zvh];exact Zz (Zz d e) c⟩)
 ·exact .inr (.inr ⟨by rw[yls];exact ztr d a,by rw[yls];exact ztr e b,by rw[zvh];exact Zz (Zz d e) c⟩)
def Off(D:Nat->V)(c:Nat->Rat)(n:Nat):Prop:=∀i,i<n->∃x,(∀j,j<n->c j<=xr (D j) x)/\c i<xr (D i) x
section
variable{D P:Nat->V}{c l:Nat->Rat}{n:Nat}
structure Sds(D P:Nat->V)(c:Nat->Rat)(n:Nat):Prop where
 poly:Poly P n
 way:∀i,i<n->∃m,0<m/\D i=sm m (ed P i)
 on:∀i,i<n->c i=xr (D i) (P i)
def ed_n(h:Poly P n):ed P n=ed P 0:=by
 unfold ed;have a:=h.per 0;have b:=h.per 1;rw[show 0+n=n by omega] at a;rw[show 1+n=n+1 by omega] at b;rw[a,b]
def P_nx(h:Poly P n){i:Nat}(d:i<n):P (nx n i)=P (i+1)/\ed P (nx n i)=ed P (i+1):=by
 unfold nx;split
 ·next e=>
  have a:=h.per 0;rw[show 0+n=n by omega] at a;rw[e,a,ed_n h];exact⟨rfl,rfl⟩
 ·exact⟨rfl,rfl⟩
def Sds.bend(S:Sds D P c n){i:Nat}(d:i<n):0<xr (D i) (D (nx n i)):=by
 obtain⟨m,g,e⟩:=S.way i d
 obtain⟨k,h,f⟩:=S.way (nx n i) (zgv d)
 rw[e,f,(P_nx S.poly d).2,zvh];exact Zz (Zz g h) (S.poly.turn i)
def Sds.on2(S:Sds D P c n){i:Nat}(d:i<n):c i=xr (D i) (P (nx n i)):=by
 obtain⟨m,f,e⟩:=S.way i d
 rw[S.on i d,(P_nx S.poly d).1,e];unfold sm ed mn xr;grind
def gg_len{a b c p:V}{m:Rat}:gg a b c (xr a p) (xr b p) (xr c (pl p (m*b.1,m*b.2))) = - m*xr a b*xr b c:=by unfold gg xr pl;grind
def Sds.ok(S:Sds D P c n):Ok D c l n 0:=by
 have g:=S.poly.three;refine⟨g,λi k h q=>?_,λi d=>S.bend d,λi d=>?_⟩
 ·obtain⟨m,j,e⟩:=S.way i vB
  obtain⟨w,o,f⟩:=S.way k q
  rw[e,f];exact bf_sm j o (S.poly.srt h q)
 ·obtain⟨m,j,e⟩:=S.way i d
  have r:=S.bend (zfw d);rw[ydv d] at r;have s:=S.bend d;have t:c (pv n i)=xr (D (pv n i)) (P i):=by
   have:=S.on2 (zfw d)
   rwa [ydv d] at this
  have mi:=Kj.mpr j;have u:P (nx n i)=pl (P i) (m⁻¹*(D i).1,m⁻¹*(D i).2):=by
   have z:=Y6 m (by grind);rw[(P_nx S.poly d).1,e];generalize m⁻¹=I at *;unfold pl sm ed mn;exact Ys (by dsimp only;grind) (by dsimp only;grind)
  have v:gi D c l n 0 i = - m⁻¹*xr (D (pv n i)) (D i)*xr (D i) (D (nx n i)):=by
   unfold gi ee;rw[t,S.on i d,S.on (nx n i) (zgv d),u,<-gg_len (p:=P i)];unfold gg;grind
  rw[v];have:=Zp (Zp (Zu mi) (Zu r)) (Zu s)
  grind
def Sds.span(S:Sds D P c n):Span D n:=λu h=>by
 have l:=S.poly.three;have o:∀i,i<n->0<=xr (ed P i) u:=λi d=>by
  obtain⟨m,q,e⟩:=S.way i d
  have:=h i d
  rw[e,zdl,Ux] at this;exact zar q this
 have f:∀i,xr (ed P i) u=xr (P (i+1)) u-xr (P i) u:=λi=>by unfold ed mn xr;grind
 have g:∀k i,i+k<=n->xr (P i) u<=xr (P (i+k)) u:=by
  intro k;induction k with
  |zero=>intro i _;exact Wq
  |succ k r=>
   intro i d;have a:=r i vB;have b:=o (i+k) vB;rw[f] at b;rw[show i+(k+1)=i+k+1 by omega];grind
 have j:∀i,i<n->xr (ed P i) u=0:=λi d=>by
  have a:=g i 0 vB;have b:=g (n-(i+1)) (i+1) vB;have p:=S.poly.per 0;rw[show i+1+(n-(i+1))=0+n by omega,p] at b;rw[show 0+i=i by omega] at a;have s:=o i d;rw[f] at s |-;grind
 have t:=S.poly.turn 0;have a:=j 0 vB;have b:=j 1 vB;have v:0<xr (ed P 0) (ed P 1):=t;generalize ed P 0=x at *;generalize ed P 1=y at *;have w:xr x y*u.1=xr x u*y.1-xr y u*x.1:=by unfold xr;grind
 have A:xr x y*u.2=xr x u*y.2-xr y u*x.2:=by unfold xr;grind
 rw[a,b] at w A;have z:xr x y≠0:=by grind
 apply Ys
 ·exact(Kq.mp (show xr x y*u.1=0 by grind)).resolve_left z
 ·exact(Kq.mp (show xr x y*u.2=0 by grind)).resolve_left z
def Sds.corner(S:Sds D P c n)(k:Nat){i:Nat}(d:i<n):c i<=xr (D i) (P k):=by
 obtain⟨m,f,e⟩:=S.way i d
 have:=Zp (Zu f) (S.poly.conv i k)
 rw[S.on i d,e,zdl,zdl];have g:xr (mn (P (i+1)) (P i)) (mn (P k) (P i))=xr (ed P i) (P k)-xr (ed P i) (P i):=by unfold ed mn xr;grind
 rw[g] at this;grind
def Sds.off(S:Sds D P c n):Off D c n:=λi d=>by
 refine⟨P (i+2),λj f=>S.corner _ f,?_⟩
 obtain⟨m,g,e⟩:=S.way i d
 have:=Zz g (S.poly.turn i)
 rw[S.on i d,e,zdl,zdl];have h:xr (mn (P (i+1)) (P i)) (mn (P (i+2)) (P (i+1)))=xr (ed P i) (P (i+2))-xr (ed P i) (P i):=by unfold ed mn xr;grind
 rw[h] at this;grind
def Off.drop{k:Nat}(h:Off D c n)(d:k<n):Off (λi=>D (er k i)) (λi=>c (er k i)) (n-1):=λi e=>by
 obtain⟨x,f,g⟩:=h (er k i) (zdj d e)
 exact⟨x,λj l=>f _ (zdj d l),g⟩
def Off.pos{t:Rat}(h:Off D c n)(O:Ok D c l n t){k:Nat}(f:k<n)(i:0<=xr (D (nx n k)) (D (pv n k))):0<tp D c n k:=by
 obtain⟨x,g,j⟩:=h (pv n k) (zfw f)
 have a:=Zz (O.bend k f) (show 0<xr (D (pv n k)) x-c (pv n k) by grind);have b:=Zp i (show 0<=xr (D k) x-c k by have:=g k f;grind);have d:=Zp (Zu (O.bendp f)) (show 0<=xr (D (nx n k)) x-c (nx n k) by have:=g _ (zgv f);grind);unfold tp gg;have e:xr (D k) (D (nx n k))*xr (D (pv n k)) x+xr (D (nx n k)) (D (pv n k))*xr (D k) x+xr (D (pv n k)) (D k)*xr (D (nx n k)) x=0:=by unfold xr;grind
 grind
end
end Fi
open Sf
def cutTo{l:List D}{a:Nat}(h:a<=l.length):cutD l none (some (a:Int))=l.take a:=by
 unfold cutD;rw[HT.sIx_none,HT.sIx_nat,Vn,Uy,Jz h]
def zzz{l:List D}{a:Nat}(h:a<=l.length):cutD l (some (a:Int)) none=l.drop a:=by
 unfold cutD;rw[HT.sIx_none,HT.sIx_nat,Jz h,V5 (by rw[Yi];exact Zl _)]
section
variable{Γ:Nat->∅}
abbrev zkw:List (Nat×(∅)):=[(9,zcj)]
def ziz:∅:=run (tab zkw) zmv 2
def ok_added(e:Γ 9=zcj):∀d w,d.length=2->ziz d=some w->run Γ zmv 2 d=some w:=λd w _ h=>zbv zkw (by
 intro p f;rcases Z0.mp f with rfl;exact e) vA d w h
def ybl{m n:Nat}{q p:Rat×Rat}(e:Sz m q.1/\Sz m q.2)(f:Sz n p.1/\Sz n p.2)(g:m<=4400:=by decide)(h:n<=4400:=by decide):ziz [stD q,stD p]=some (.val (stD (pshR p q))):=by
 unfold ziz;generalize d:tab zkw=Γ;have i:Γ 9=zcj:=by rw[<-d];rfl
 have j:zcj [fr q.1,fr p.1]=some (.val (fr (q.1+p.1))):=Bx (Bt e.1 f.1 g h);have l:zcj [fr q.2,fr p.2]=some (.val (fr (q.2+p.2))):=Bx (Bt e.2 f.2 g h);show _=some (W.val (.tup [fr (q.1+p.1),fr (q.2+p.2)]));generalize fr (q.1+p.1)=X at *;generalize fr (q.2+p.2)=Y at *;clear e f d g h;unfold zmv stD;walk_at "evh"
abbrev zib:List (Nat×(∅)):=[(67,ziz)]
def zcn:∅:=run (tab zib) zfq 2
def ok_pushed(e:Γ 67=ziz):∀d w,d.length=2->zcn d=some w->run Γ zfq 2 d=some w:=λd w _ h=>zbv zib (by
 intro p f;rcases Z0.mp f with rfl;exact e) vA d w h
def zkk{m n:Nat}{l:List (Rat×Rat)}{p:Rat×Rat}(s:l.length<=1000)(e:SzL m l)(f:Sz n p.1/\Sz n p.2)(h:m<=4400:=by decide)(i:n<=4400:=by decide):zcn [.lst (l.map stD),stD p]=some (.new ((l.map (pshR p)).map stD)):=by
 unfold zcn;generalize d:tab zib=Γ;have t:Γ 67=ziz:=by rw[<-d];rfl
 have j:ev Γ (.comp (.call 67 #v[.var 1,.var 2]) (.name 1) (.seqV 0) 2 [1] .non) [some (.lst (l.map stD)),some (stD p)]=some (.new (l.map λq=>stD (pshR p q))):=by
  refine zde (g:=stD) ?_ (by rw[Q2];omega) rfl λq r=>?_
  ·generalize stD p=P;clear e f d h i;walk_at "evh"
  ·have a:=ybl (e q r) f h i;generalize stD (pshR p q)=O at *;generalize stD q=Q at *;generalize stD p=P at *;generalize l.map stD=u at *;clear e f d r h i;walk_at "evh"
 rw[Ya];show run Γ zfq 2 _=some (.new (l.map λq=>stD (pshR p q)));generalize (l.map λq=>stD (pshR p q))=O at *;generalize stD p=P at *;generalize l.map stD=u at *;unfold zfq;generalize o:E.comp _ _ _ _ _ _=v at *;clear e f d s o h i;walk_at "evh"
def rat_of(x:Rat):Rat.divInt x.num (x.den:Int)=x:=by
 rw[Rat.divInt_ofNat];exact Vs x
def mul_r(x y:Rat):Rat.divInt (x.num*y.num) ((x.den:Int)*(y.den:Int))=x*y:=by
 have e:=Wf x.num y.num (d₁:=(x.den:Int)) (d₂:=(y.den:Int));rw[rat_of,rat_of] at e;exact e.symm
end
open Sf
def fr_eqd(x y:Rat):cmpD .eq (fr x) (fr y)=some (decide (x=y)):=by
 have d:∀z:Rat,dOkL 49 [D.int z.num,D.int (z.den:Int)]=true:=λ_=>rfl
 show(if (dOkL 49 [.int x.num,.int (x.den:Int)] && dOkL 49 [.int y.num,.int (y.den:Int)])=true then some (eqL [.int x.num,.int (x.den:Int)] [.int y.num,.int (y.den:Int)]) else none)=_;rw[d,d,Bool.and_self,if_pos rfl];congr 1
 simp only[eqL,eqD,Bool.and_true];by_cases h:x=y
 ·subst h;simp
 ·have:¬(x.num=y.num/\(x.den:Int)=(y.den:Int)):=λ⟨f,g⟩=>h (Rat.ext f vB)
  rw[decide_eq_false h];exact Jl.mpr λe=>this (by simpa using e)
section
variable{Γ:Nat->∅}
def ybb{l:List (Rat×Rat)}{k:Nat}(h:k<l.length):L2.atI (l.map stD) (k:Int)=some (stD (l.getD k (0,0))):=by
 rw[zrd (Yn k) (by rw[Zc];omega),Z8,Zj,Zg h,Zi,Zg h];rfl
end
open Sf
section
variable{Γ:Nat->∅}
structure Sy(a b:Nat)(x:Rat):Prop where
 t:x.num.natAbs<2^a
 b:x.den<2^b
def Sy.sz{a b n:Nat}{x:Rat}(h:Sy a b x)(d:a<=n)(e:b<=n):Sz n x:=⟨Ze h.t (Bn d),Ze h.b (Bn e)⟩
def Sy.mono{a b c d:Nat}{x:Rat}(h:Sy a b x)(e:a<=c)(f:b<=d):Sy c d x:=⟨Ze h.t (Bn e),Ze h.b (Bn f)⟩
def zeo{x:Rat}{p q:Int}{m n:Nat}(d:q≠0)(e:x=Rat.divInt p q)(f:p.natAbs<2^m)(g:q.natAbs<2^n):Sy m n x:=by
 obtain⟨a,b⟩:=(zdc x).cross_le d ((zrv d).mp e)
 exact⟨Ye a f,by have:=b;omega⟩
def zid{t b:Int}{m n:Nat}(h:b≠0)(d:t.natAbs<2^m)(e:b.natAbs<2^n):Sy m n (Rat.divInt t b):=zeo h rfl d e
def Sy.mul{a b c d:Nat}{x y:Rat}(e:Sy a b x)(f:Sy c d y):Sy (a+c) (b+d) (x*y):=by
 have p:(x.den:Int)≠0:=by have:=x.den_nz;omega
 have q:(y.den:Int)≠0:=by have:=y.den_nz;omega
 refine zeo (Yf p q) (zqc x y) ?_ ?_
 ·rw[Z5];exact zam e.t f.t
 ·rw[Z5];exact zam e.b f.b
def Sy.add{a b c d k:Nat}{x y:Rat}(f:Sy a b x)(g:Sy c d y)(h:a+d<=k)(i:c+b<=k):Sy (k+1) (b+d) (x+y):=by
 have p:(x.den:Int)≠0:=by have:=x.den_nz;omega
 have q:(y.den:Int)≠0:=by have:=y.den_nz;omega
 have e:x+y=Rat.divInt (x.num*y.den+y.num*x.den) (x.den*y.den):=by
  conv=>lhs;rw[<-Ym x,<-Ym y]
  exact Kz _ _ p q
 refine zeo (Yf p q) e ?_ ?_
 ·have j:(x.num*y.den).natAbs<2^k:=by rw[Z5];exact Ze (zam f.t g.b) (Bn h)
  have l:(y.num*x.den).natAbs<2^k:=by rw[Z5];exact Ze (zam g.t f.b) (Bn i)
  exact Ye (Jm _ _) (by rw[Jy,Vh];exact Vt j l)
 ·rw[Z5];exact zam f.b g.b
def Sy.neg{a b:Nat}{x:Rat}(d:Sy a b x):Sy a b (-x):=⟨by show(-x.num).natAbs<_;rw[Jj];exact d.t,d.b⟩
end
open Sf
section
variable{Γ:Nat->∅}
def crI(s t:H3):Int:=s.1*t.2.1-s.2.1*t.1
def zby:∅:=run (tab []) zmu 2
def ok_cross:∀d w,d.length=2->zby d=some w->run Γ zmu 2 d=some w:=λd w _ h=>zbv [] (λp e=>by cases e) vA d w h
def zdt{s t:H3}(d:HB 3000 s)(e:HB 3000 t):zby [hD s,hD t]=some (.val (.int (crI s t))):=by
 have f:Bw s.1 t.2.1=true:=Br d.a e.b vA vA;have g:Bw s.2.1 t.1=true:=Br d.b e.a vA vA;unfold zby;generalize tab []=Γ;unfold crI hD zmu;clear d e;walk_at "evh"
def ybc{l:List D}{k:Nat}{x:D}(h:l[k]? = some x):L2.atI l (k:Int)=some x:=by
 have d:k<l.length:=by
  rcases Yd k l.length with q|q
  ·exact q
  ·rw[Yl q] at h;cases h
 rw[zrd (Yn k) vB,Z8,h]
end
open Sf Mg
section
variable{Γ:Nat->∅}
def yjp{l:List (Rat×Rat)}{i:Nat}(d:i<l.length):(zdn l).drop i=zeh (rnd l i) (rnd l (i+1))::(zdn l).drop (i+1):=by
 have f:i<(zdn l).length:=by unfold zdn;rw[Zc,zcd];exact d
 rw[Yu f];congr 1
 have e:i<(pairsOf l).length:=by rw[zcd];exact d
 have g:=zis (l:=l) (k:=i) (Zg e);have a:=zan (l:=l) vB i;have b:=zan (l:=l) vB (i+1);rw[Zm d] at a;rw[a] at g;rw[b] at g;have h:=Z3 g.1;have j:=Z3 g.2;show(List.map (λp=>zeh p.1 p.2) (pairsOf l))[i]'(by rw[Zc];exact e)=_;rw[U0,<-h,<-j]
def zfa{l:List (Rat×Rat)}(d:l.Nodup)(f:2<=l.length)(i:Nat):rnd l i≠rnd l (i+1):=λe=>by
 have:=zlh d vB e.symm
 have a:=Wn i (show 0<l.length by omega);rw[<-Qb] at this;rcases Yd (i%l.length+1) l.length with k|k
 ·rw[Zm k] at this;omega
 ·rw[show i%l.length+1=l.length by omega,K3] at this;omega
end
open Sf Mg
structure Ov(d:Int)(B:Nat)(q:Rat×Rat):Prop where
 ex:∃x y:Int,q.1=Rat.divInt x d/\q.2=Rat.divInt y d/\x.natAbs<2^B/\y.natAbs<2^B
def zzr{a b c d:Int}(e:b≠0)(f:d≠0):Rat.divInt a b+Rat.divInt c d=Rat.divInt (a*d+c*b) (b*d):=Kz _ _ e f
def zbx{a b:Int}{m n k:Nat}(h:a.natAbs<2^m)(g:b.natAbs<2^n)(d:m+n<=k):(a*b).natAbs<2^k:=by
 rw[Z5];exact Ze (zam h g) (Bn d)
def zxb{a b:Int}{k:Nat}(h:a.natAbs<2^k)(g:b.natAbs<2^k):(a+b).natAbs<2^(k+1):=Ye (Jm a b) (by rw[Jy,Vh];exact Vt h g)
def znn{a b:Int}{k:Nat}(h:a.natAbs<2^k)(g:b.natAbs<2^k):(a-b).natAbs<2^(k+1):=Ye (Int.natAbs_sub_le a b) (by rw[Jy,Vh];exact Vt h g)
theorem Ov.pl{d e:Int}{B C m n k:Nat}{u v:Rat×Rat}(o:Ov d B u)(p:Ov e C v)(f:d≠0)(g:e≠0)(h:d.natAbs<2^m)(i:e.natAbs<2^n)(j:B+n<=k)(l:C+m<=k):Ov (d*e) (k+1) (pl u v):=by
 obtain⟨x,y,q,r,s,t⟩:=o.ex
 obtain⟨z,w,A,D,E,F⟩:=p.ex
 refine⟨x*e+z*d,y*e+w*d,?_,?_,zxb (zbx s i j) (zbx E h l),zxb (zbx t i j) (zbx F h l)⟩
 ·show u.1+v.1=_;rw[q,A,zzr f g]
 ·show u.2+v.2=_;rw[r,D,zzr f g]
def zwy(x:Rat):x=Rat.divInt x.num (x.den:Int):=(Ym x).symm
def yic(x:Rat):(x.den:Int)≠0:=by have:=x.den_nz;omega
theorem Ov.sc{d:Int}{B a b k:Nat}{q:Rat×Rat}{x:Rat}(f:Ov d B q)(e:Sy a b x)(h:B+a<=k):Ov (d*(x.den:Int)) k (sc x q):=by
 obtain⟨z,w,g,i,j,l⟩:=f.ex
 refine⟨z*x.num,w*x.num,?_,?_,zbx j e.t h,zbx l e.t h⟩
 ·show q.1*x=_;rw[g];conv=>lhs;rw[zwy x];rw[Wf]
 ·show q.2*x=_;rw[i];conv=>lhs;rw[zwy x];rw[Wf]
def Ov.xr{d:Int}{B:Nat}{p q:Rat×Rat}(e:Ov d B p)(f:Ov d B q):∃c:Int,Xr p q=Rat.divInt c (d*d)/\c.natAbs<=2^(B+B+1):=by
 obtain⟨x,y,g,h,i,j⟩:=e.ex
 obtain⟨u,v,l,m,n,o⟩:=f.ex
 refine⟨x*v-u*y,?_,J0 (znn (zbx i o (Zl _)) (zbx n j (Zl _)))⟩
 unfold Xr;rw[g,h,l,m,Wf,Wf];rw[Y3,Y3,Y3,Yz,Yz,Yz,Ww];grind
def zdx{l:List (Rat×Rat)}{i:Nat}(h:i<l.length):at0 l i∈l:=by
 unfold at0;rw[Zi,Zg h];exact Kf h
theorem ov_sX{d:Int}{B:Nat}{l:List (Rat×Rat)}(h:∀q∈l,Ov d B q):∀k,k<=l.length->∃c:Int,sX l k=Rat.divInt c (d*d)/\c.natAbs<=k*2^(B+B+1)
 |0,_=>⟨0,by rw[Rat.zero_divInt];rfl,by simp⟩
 |k+1,j=>by
  obtain⟨c,e,b⟩:=ov_sX h k vB
  obtain⟨f,g,i⟩:=(h _ (zdx (show k<l.length by omega))).xr (h _ (zdx (show(k+1)%l.length<l.length from Wn _ vB)))
  refine⟨c+f,?_,Wg (Jm c f) (by rw[Nat.add_mul,Nat.one_mul];exact Nat.add_le_add b i)⟩
  show sX l k+Xr (at0 l k) (at0 l ((k+1)%l.length))=_;rw[e,g,Y3,Y3,Y3,Yz,Yz,Yz,Kr];grind
def ov_sz{d:Int}{B m n:Nat}{l:List (Rat×Rat)}(h:∀q∈l,Ov d B q)(f:d≠0)(g:d.natAbs<2^m)(o:l.length<=400)(p:B+B+10<=n)(i:m+m<=n):∀k,k<=l.length->Sz n (sX l k):=λk j=>by
 obtain⟨c,e,b⟩:=ov_sX h k j
 rw[e];refine sz_low (Yf f f) (Ye b ?_) (zbx g g i);refine Ze (Ye (Nat.mul_le_mul_right _ (show k<=400 by omega)) (Nat.mul_lt_mul_of_pos_right (show 400<2^9 by decide) (Vg _))) ?_;rw[<-Gv];exact Bn vB
def SyL(a b:Nat)(l:List (Rat×Rat)):Prop:=∀q∈l,Sy a b q.1/\Sy a b q.2
theorem SyL.sz{a b n:Nat}{l:List (Rat×Rat)}(h:SyL a b l)(d:a<=n)(e:b<=n):SzL n l:=λq f=>⟨(h q f).1.sz d e,(h q f).2.sz d e⟩
def SyL.size{a b c d:Nat}{l:List (Rat×Rat)}{x:Rat}(f:SyL a b l)(g:Sy c d x):SyL (a+c) (b+d) (l.map (sc x)):=λq i=>by
 obtain⟨u,h,e⟩:=Zq.mp i
 rw[<-e];exact⟨(f u h).1.mul g,(f u h).2.mul g⟩
def yhc(p:Rat×Rat):pshR p=pl p:=by
 funext q
 unfold pshR pl;exact Ys (Rat.add_comm _ _) (Rat.add_comm _ _)
open Sf Mg
section
variable{Γ:Nat->∅}
def yns{l:List (Rat×Rat)}(e:l.length<=200)(l1:1<=l.length)(f:SzL 300 l)(g:∀k,k<=l.length->Sz 410 (sX l k)):zbl [.lst (l.map stD)]=some (.val (fr (Ar l))):=
 zqq (λi d=>(g i d).mono vA) (λi d=>f _ (zdx d)) l1 e
end
open Sf Mg
open Sf Mg
section
variable{Γ:Nat->∅}
abbrev q60:Int:=1000000000000000000000000000000000000000000000000000000000007
def zbz:∅:=run (tab []) zcb 6
def ok_law_numbers:∀d w,d.length=2->zbz d=some w->run Γ zcb 6 d=some w:=λd w _ h=>zbv [] (λp e=>by cases e) vA d w h
abbrev zdv:Ss:=#v[.asg 4 (.int 0),.iff (.cmp .gt (.bi .len #v[.var 0]) (.int 0)) #v[.asg 4 (.bin .mod (.ix (.var 0) (.bin .mod (.var 2) (.bi .min #v[.bi .len #v[.var 0],.int 63]))) (.bin .add (.bin .pow (.int 10) (.int 60)) (.int 7)))] .nil,.asg 5 (.bin .mod (.var 2) (.var 1)),.seti 3 (.var 5) (.bin .mod (.bin .add (.bin .add (.bin .mul (.ix (.var 3) (.var 5)) (.int 48271)) (.var 4)) (.bin .mul (.var 2) (.var 2))) (.bin .add (.bin .pow (.int 10) (.int 60)) (.int 7)))]
def zxw{e f:List D}{L m k c x:Int}{j:Nat}{l n:Option B}(q:(e.length:Int)=L)(o:(0<L)=True)(p:(63<L)=False)(d:L≠0)(g:m≠0)(h:0<m)
 (r:L2.atI e (k%L)=some (.int c))(s:L2.atI f (k%m)=some (.int x))(t:L2.ixN f.length (k%m)=some j)(o1:Bw x 48271=true)(o2:Bw k k=true):
  exs Γ zdv [~~~.lst e,~~~.int m,~~~.int k,some (.ow f),l,n]=some (.nx [~~~.lst e,~~~.int m,~~~.int k,some (.ow (f.set j (.int ((x*48271+c%q60+k*k)%q60)))),~~~.int (c%q60),~~~.int (k%m)]):=by
 have i:0<L:=of_eq_true o;have u:=zap (a:=k) i;have v:=zap (a:=k) h;have w:(L=0)=False:=eq_false d;have z:(m=0)=False:=eq_false g;have A:∀y:Int,y.fmod 1000000000000000000000000000000000000000000000000000000000007=y%1000000000000000000000000000000000000000000000000000000000007:=λy=>zap vA
 have C:((1000000000000000000000000000000000000000000000000000000000007:Int)=0)=False:=eq_false vA;unfold zdv q60;clear d g h i;walk_at "evh"
def zxx{d:List D}{m k x:Int}{j:Nat}{g h:Option B}(e:m≠0)(f:0<m)(i:L2.atI d (k%m)=some (.int x))(l:L2.ixN d.length (k%m)=some j)(o1:Bw x 48271=true)(o2:Bw k k=true):
  exs Γ zdv [~~~.lst [],~~~.int m,~~~.int k,some (.ow d),g,h]=some (.nx [~~~.lst [],~~~.int m,~~~.int k,some (.ow (d.set j (.int ((x*48271+0+k*k)%q60)))),~~~.int 0,~~~.int (k%m)]):=by
 have n:=zap (a:=k) f;have o:(m=0)=False:=eq_false e;have p:∀y:Int,y.fmod 1000000000000000000000000000000000000000000000000000000000007=y%1000000000000000000000000000000000000000000000000000000000007:=λy=>zap vA
 have q:((1000000000000000000000000000000000000000000000000000000000007:Int)=0)=False:=eq_false vA;have r:((([]:List D).length:Nat):Int)=0:=rfl;unfold zdv q60;clear e f;walk_at "evh"
abbrev zmg:E:=(.comp (.int 0) (.name 1) (.range1 (.var 1)) 2 [] .non)
def yln{d Z O:List D}{m N L:Int}{e f g:Option B}(i:(d.length:Int)=L)(h:(63<L)=False)(j:(if m<L then L else m)=N)(l:(-4611686018427387904<=N/\N<4611686018427387904)=True)
 (n:ev Γ zmg [some (.lst d),some (.int m),none,none,none,none]=some (.new Z))(o:lfL Z=true)
 (p:forN (zai (.name 2)) (exs Γ zdv) (zal 0 N.toNat) [~~~.lst d,~~~.int m,none,some (.ow Z),none,none]=some (.nx [~~~.lst d,~~~.int m,e,some (.ow O),f,g])):
  run Γ zcb 6 [.lst d,.int m]=some (.new O):=by
 show run Γ #v[.asg 3 zmg,.frr (.name 2) (.range1 (.bi .max #v[.var 1,.bi .min #v[.bi .len #v[.var 0],.int 63]])) zdv,.retV 3] 6 _=_;generalize zmg=q at *;generalize zdv=r at *;walk_at "evh"
def zwv(m:Nat):(List.replicate m (0:Int)).map D.int=(List.range m).map λ_=>D.int 0:=by
 rw[List.map_replicate,List.map_const',Z6]
def zwz(m:Nat):zal 0 ((m:Int).toNat)=(List.range m).map λ(k:Nat)=>D.int (0+(k:Int)):=by
 rw[Z8];rfl
def ynj{d:D}{m:Nat}(h:m<=1000):evW Γ (.range1 (.var 1)) [some d,some (.int (m:Int)),none,none,none,none]=some ((List.range m).map λ(k:Nat)=>D.int (0+(k:Int))):=by
 have e:evd Γ (.var 1) [some d,some (.int (m:Int)),none,none,none,none]=some (.int (m:Int)):=by walk_at "evh"
 rw[evW_range1,e,Z9,zzy,Z9,if_pos ⟨by omega,by omega⟩,zwz]
def yfk{e:D}{m:Nat}(h:m<=1000):ev Γ zmg [some e,some (.int (m:Int)),none,none,none,none]=some (.new ((List.replicate m (0:Int)).map D.int)):=by
 rw[zwv];have f:(1000:Nat)<=PySem.sizeLine:=by decide
 refine zde (l:=List.range m) (g:=λ(k:Nat)=>D.int (0+(k:Int))) (h:=λ_=>D.int 0) (ynj h) (by rw[Z6];omega) rfl (λx _=>?_);clear h f;generalize D.int (0+(x:Int))=d;generalize D.int (m:Int)=i;walk_at "evh"
theorem zlu:∀l:List Int,lfL (l.map D.int)=true
 |[]=>rfl
 |_::l=>zlu l
def zdb{hs:List Int}{j:Nat}(h:j<hs.length):L2.atI (hs.map D.int) (j:Int)=some (.int hs[j]):=ybc (by rw[Zj,Zg h];rfl)
def ixN_of{n j:Nat}(h:j<n):L2.ixN n (j:Int)=some j:=by
 unfold L2.ixN;rw[if_pos vB];simp[h]
def zqb(g:List Int)(O:g.length<=63)(m:Nat)(P:1<=m)(G:m<=40):∃f:List Int,f.length=m/\(∀h∈f,0<=h/\h<q60)/\zbz [.lst (g.map D.int),.int (m:Int)]=some (.new (f.map D.int)):=by
 have key:∀N:Nat,N<=100->∃i,forN (zai (.name 2)) (exs (tab []) zdv) (zal 0 N) [~~~.lst (g.map D.int),~~~.int (m:Int),none,some (.ow ((List.replicate m (0:Int)).map D.int)),none,none]=some (.nx i) /\
   ∃(f:List Int) (j l n:Option B),(f.length=m/\∀h∈f,0<=h/\h<q60)/\i=[~~~.lst (g.map D.int),~~~.int (m:Int),j,some (.ow (f.map D.int)),l,n]:=λN v=>by
  refine zsr (I:=λw=>∃(f:List Int) (j l n:Option B),(f.length=m/\∀h∈f,0<=h/\h<q60)/\w=[~~~.lst (g.map D.int),~~~.int (m:Int),j,some (.ow (f.map D.int)),l,n]) _ (λd A w r=>?_) _ ⟨List.replicate m 0,none,none,none,⟨Yy,λh s=>by rw[(List.mem_replicate.mp s).2];decide⟩,rfl⟩;obtain⟨f,j,l,n,⟨p,q⟩,rfl⟩:=r
  unfold zal at A;obtain⟨k,C,e⟩:=Zq.mp A
  have C:=Wj.mp C;rw[U3] at e;subst e;have t:k%m<f.length:=by rw[p];exact Wn _ vB
  have H:(k:Int)%(m:Int)=((k%m:Nat):Int):=rfl;have E:L2.atI (f.map D.int) ((k:Int)%(m:Int))=some (.int f[k%m]):=zdb t;have F:L2.ixN (f.map D.int).length ((k:Int)%(m:Int))=some (k%m):=by rw[Zc,H];exact ixN_of t
  have u:=q _ (Kf t);have o1:Bw f[k%m] 48271=true:=zac vB (by have:=u.2;unfold q60 at this;omega) vA vA;have o2:Bw (k:Int) (k:Int)=true:=zac vB vB vB vB;have o:∀y:Int,(f.set (k%m) (y%q60)).length=m/\∀h∈f.set (k%m) (y%q60),0<=h/\h<q60:=λy=>by
   refine⟨by rw[W9];exact p,λh s=>?_⟩
   rcases List.mem_or_eq_of_mem_set s with z|z
   ·exact q h z
   ·subst z;exact⟨Qc _ vA,Ks _ vA⟩
  by_cases z:g=[]
  ·subst z;refine⟨_,_,rfl,zxx vB vB E F o1 o2,f.set (k%m) ((f[k%m]*48271+0+(k:Int)*(k:Int))%q60),_,_,_,o _,by rw[List.map_set];rfl⟩
  ·have J:0<g.length:=List.length_pos_iff.mpr z;have K:k%g.length<g.length:=Wn _ J;refine⟨_,_,rfl,zxw (L:=(g.length:Int)) (c:=g[k%g.length]) (by rw[Zc]) (eq_true vB) (eq_false vB) vB vB vB (zdb K) E F o1 o2,f.set (k%m) ((f[k%m]*48271+g[k%g.length]%q60+(k:Int)*(k:Int))%q60),_,_,_,o _,by rw[List.map_set]⟩
 obtain⟨N,v,e⟩:∃N:Nat,N<=100/\(if (m:Int)<(g.length:Int) then(g.length:Int) else(m:Int))=(N:Int):=by
  by_cases z:(m:Int)<(g.length:Int)
  ·exact⟨g.length,by omega,if_pos z⟩
  ·exact⟨m,by omega,if_neg z⟩
 obtain⟨i,M,f,j,l,n,⟨p,q⟩,rfl⟩:=key N v
 refine⟨f,p,q,?_⟩
 unfold zbz;exact yln (L:=(g.length:Int)) (N:=(N:Int)) (by rw[Zc]) (eq_false vB) e (eq_true ⟨by omega,by omega⟩) (yfk vB) (zlu _) (by rw[Z8];exact M)
end
open Sf Mg
section
variable{Γ:Nat->∅}
def zct:∅
 |[.int t,.int b]=>if 0<b/\b.natAbs<2^9000 then some (.val (fr (Rat.divInt t b))) else none
 |_=>none
def zix{t b:Int}(h:0<b)(d:b.natAbs<2^9000):zct [.int t,.int b]=some (.val (fr (Rat.divInt t b))):=if_pos ⟨h,d⟩
def ok_law_fraction(g:Γ 12=zaa):∀d w,d.length=2->zct d=some w->run Γ zco 3 d=some w:=by
 intro d w _ h;unfold zct at h;split at h
 ·rename_i t b _;split at h
  ·rename_i z;cases h;have e:b≠0:=by omega
   obtain⟨j,i⟩:=zsx (t:=t) e z.2
   rw[yht e];have f:¬b<0:=by omega
   unfold low1 Sf.low2 by_ zco;rw[if_neg f];have l:=@zbp;clear z e f i;walk_at "evh"
  ·cases h
 ·cases h
def mLPlus:∅:=fr2 okRR λx y=>fr (x+y)
def zyg:∅:=fr2 okRR λx y=>fr (x*y)
def zdq:∅:=fr2 okRR λx y=>.bl (decide (x<y))
def den2{x y:Rat}(d:Sz 4400 x)(e:Sz 4400 y):0<(x.den:Int)*(y.den:Int)/\((x.den:Int)*(y.den:Int)).natAbs<2^9000:=by
 refine⟨Ws (den_pos x) (den_pos y),?_⟩
 rw[Z5,Yo,Yo];exact Ze (zam d.b e.b) (Bn vA)
def zny(e:Γ 103=zct):∀d w,d.length=2->zyg d=some w->run Γ zag 2 d=some w:=by
 intro d w _ h;obtain⟨x,y,rfl,f,rfl⟩:=zdd h
 obtain⟨sx,sy⟩:=zeq f
 obtain⟨g,i⟩:=den2 sx sy
 have j:Bw x.num y.num=true:=Br sx.t sy.t vA vA;have l:Bw (x.den:Int) (y.den:Int)=true:=Br (Bq sx) (Bq sy) vA vA;have q:=zix (t:=x.num*y.num) g i;rw[mul_r] at q;clear sx sy g i f h;unfold zag;show run Γ _ 2 [fr x,fr y]=some (.val (fr (x*y)));generalize fr (x*y)=z at *;unfold fr;walk_at "evh"
def ok_law_less:∀d w,d.length=2->zdq d=some w->run Γ zgf 2 d=some w:=by
 intro d w _ h;obtain⟨x,y,e,f,g⟩:=zdd h
 subst e;subst g;obtain⟨sx,sy⟩:=zeq f
 have i:Bw x.num (y.den:Int)=true:=Br sx.t (Bq sy) vA vA;have j:Bw y.num (x.den:Int)=true:=Br sy.t (Bq sx) vA vA;rw[zsi];clear sx sy f h;unfold zgf;walk_at "evh"
end
section
variable{Γ:Nat->∅}
def pP(p:Lb.Pt):D:=.tup [.int p.1,.int p.2]
abbrev zet:Ss:=#v[.app 1 (.bin .add (.bin .add (.ix (.var 1) (.neg (.int 1))) (.int 1)) (.bin .mod (.bin .fdiv (.ix (.var 0) (.int 2)) (.bin .add (.int 2) (.bin .mul (.int 3) (.var 2)))) (.int 3)))]
abbrev zdf:Ss:=#v[.app 3 (.bin .add (.bin .add (.ix (.var 3) (.neg (.int 1))) (.int 1)) (.bin .mod (.bin .fdiv (.ix (.var 0) (.int 4)) (.bin .add (.int 1) (.bin .mul (.int 3) (.var 2)))) (.int 3)))]
def yei{f d:List D}{g k x:Int}{h i:Option B}(l:L2.atI f 2=some (.int g))(m:L2.atI d (-1)=some (.int x))(j:0<2+3*k)(n:zbt (2+3*k)=true)(o:Bw 3 k=true)(p:(d.length<PySem.sizeLine)=True):
  exs Γ zet [~~~.lst f,some (.ow d),~~~.int k,h,i]=some (.nx [~~~.lst f,some (.ow (d++[.int (x+1+g/(2+3*k)%3)])),~~~.int k,h,i]):=by
 have e:=zmd (a:=g) j;unfold zet;clear j;walk_at "evh"
def zyw{f d:List D}{g k x:Int}{h i:Option B}(l:L2.atI f 4=some (.int g))(m:L2.atI d (-1)=some (.int x))(j:0<1+3*k)(n:zbt (1+3*k)=true)(o:Bw 3 k=true)(p:(d.length<PySem.sizeLine)=True):
  exs Γ zdf [~~~.lst f,h,~~~.int k,some (.ow d),i]=some (.nx [~~~.lst f,h,~~~.int k,some (.ow (d++[.int (x+1+g/(1+3*k)%3)])),i]):=by
 have e:=zmd (a:=g) j;unfold zdf;clear j;walk_at "evh"
theorem zqk{bt:D->RhoS->Option RhoS}{fb:RhoS->Option Out}{I:Nat->RhoS->Prop}:∀(l:List D) (k:Nat) (e:RhoS),I k e->(∀j d e,l[j]? = some d->I (k+j) e->∃i f,bt d e=some i/\fb i=some (.nx f)/\I (k+j+1) f)->∃g,forN bt fb l e=some (.nx g)/\I (k+l.length) g
 |[],k,e,h,_=>⟨e,rfl,h⟩
 |d::l,k,e,h,st=>by
  obtain⟨i,f,m,n,o⟩:=st 0 d e rfl h
  obtain⟨g,p,q⟩:=zqk l (k+1) f o λj r e s t=>by
   obtain⟨u,v,a,b,c⟩:=st (j+1) r e (by rw[Wm];exact s) (by rw[show k+(j+1)=k+1+j by omega];exact t)
   exact⟨u,v,a,b,by rw[show k+1+j+1=k+(j+1)+1 by omega];exact c⟩
  refine⟨g,?_,by rw[Zv,show k+(l.length+1)=k+1+l.length by omega];exact q⟩
  unfold forN;rw[m];simp only
  rw[n];exact p
def zmb{bt:D->RhoS->Option RhoS}{fb:RhoS->Option Out}{I:Nat->RhoS->Prop}(n:Nat)(g:RhoS)(h:I 0 g)(s:∀(j:Nat) g,j<n->I j g->∃i l,bt (.int (j:Int)) g=some i/\fb i=some (.nx l)/\I (j+1) l):∃f,forN bt fb (zal 0 n) g=some (.nx f)/\I n f:=by
 have p:(zal 0 n).length=n:=by unfold zal;rw[Zc,Z6]
 obtain⟨f,e,q⟩:=zqk (bt:=bt) (fb:=fb) (I:=I) (zal 0 n) 0 g h λj d g m r=>by
  have o:=(Zo.mp m).1;rw[p] at o;unfold zal at m;rw[Zj,K8 o] at m;cases m;rw[Wc] at r |-;dsimp only;rw[U3];exact s j g o r
 rw[Wc,p] at q;exact⟨f,e,q⟩
structure Gr(k:Nat)(xs:List Int):Prop where
 ex:∃ys x,xs=ys++[x]
 srt:xs.Pairwise (· < ·)
 len:xs.length=k+1
 bd:∀x∈xs,-3<=x/\x<=3*(k:Int)
def Gr.one{x:Int}(h : -3<=x/\x<=0):Gr 0 [x]:=⟨⟨[],x,rfl⟩,Wk _ _,rfl,λy d=>by rw[Z0.mp d];omega⟩
def Gr.more{k:Nat}{f:List Int}{x e:Int}(h:Gr k (f++[x]))(i:0<=e)(j:e<=2):Gr (k+1) (f++[x]++[x+1+e]):=by
 have l:=h.bd x (Yk _ (.head _));refine⟨⟨_,_,rfl⟩,J3.mpr ⟨h.srt,Wk _ _,λy d z g=>?_⟩,by rw[Yc,h.len];rfl,λy d=>?_⟩
 ·rw[Z0.mp g];rcases Y0.mp d with q|q
  ·have:=(J3.mp h.srt).2.2 y q x (.head _);omega
  ·rw[Z0.mp q];omega
 ·rcases Y0.mp d with q|q
  ·have:=h.bd y q;omega
  ·rw[Z0.mp q];omega
def zoj{d:List Int}{x:Int}:L2.atI ((d++[x]).map D.int) (-1)=some (.int x):=by
 rw[Y7];exact L2.atI_last _ _
def yej{f:List D}{h:Int}(l:L2.atI f 2=some (.int h)){x:Int}(m : -3<=x/\x<=0)(n:Nat)(r:n<=10):∃d o,Gr n d/\forN (zai (.name 2)) (exs Γ zet) (zal 0 n) [~~~.lst f,some (.ow ([x].map D.int)),none,none,none]=some (.nx [~~~.lst f,some (.ow (d.map D.int)),o,none,none]):=by
 have s:(1000:Nat)<=PySem.sizeLine:=by decide
 obtain⟨p,e,d,c,g,rfl⟩:=zmb (bt:=zai (.name 2)) (fb:=exs Γ zet) (I:=λk i=>∃d c,Gr k d/\i=[~~~.lst f,some (.ow (d.map D.int)),c,none,none]) n _ ⟨[x],none,Gr.one m,rfl⟩ λj i t q=>by
  obtain⟨d,c,g,rfl⟩:=q
  obtain⟨u,y,rfl⟩:=g.ex
  have v:=g.len;refine⟨_,_,rfl,yei (k:=(j:Int)) l zoj vB (zes vB vB) (zac vA vA vB vB) (eq_true (by rw[Zc];omega)),_,~~~.int (j:Int),g.more (e:=h/(2+3*(j:Int))%3) vB vB,?_⟩
  simp only[Y7,Zx,W7]
 exact⟨d,c,g,e⟩
def zyx{f:List D}{i:Int}{c1 c2:Option B}(m:L2.atI f 4=some (.int i)){x:Int}(o : -3<=x/\x<=0)(n:Nat)(r:n<=10):∃d h,Gr n d/\forN (zai (.name 2)) (exs Γ zdf) (zal 0 n) [~~~.lst f,c1,c2,some (.ow ([x].map D.int)),none]=some (.nx [~~~.lst f,c1,h,some (.ow (d.map D.int)),none]):=by
 have s:(1000:Nat)<=PySem.sizeLine:=by decide
 obtain⟨p,e,d,c,g,rfl⟩:=zmb (bt:=zai (.name 2)) (fb:=exs Γ zdf) (I:=λk l=>∃d c,Gr k d/\l=[~~~.lst f,c1,c,some (.ow (d.map D.int)),none]) n _ ⟨[x],c2,Gr.one o,rfl⟩ λj l t q=>by
  obtain⟨d,c,g,rfl⟩:=q
  obtain⟨u,y,rfl⟩:=g.ex
  have v:=g.len;refine⟨_,_,rfl,zyw (k:=(j:Int)) m zoj vB (zes vB vB) (zac vA vA vB vB) (eq_true (by rw[Zc];omega)),_,~~~.int (j:Int),g.more (e:=i/(1+3*(j:Int))%3) vB vB,?_⟩
  simp only[Y7,Zx,W7]
 exact⟨d,c,g,e⟩
abbrev ztc:E:=(.comp (.bin .mul (.var 1) (.var 1)) (.name 1) (.seq (.bin .add (.var 1) (.var 3))) 2 [] .non)
abbrev zmh:E:=(.comp (.tup #v[.var 1,.bin .mul (.var 1) (.var 1)]) (.name 1) (.seqV 1) 2 [] .non)
abbrev zhq:E:=(.comp (.tup #v[.var 1,.bin .sub (.var 2) (.bin .mul (.var 1) (.var 1))]) (.name 1) (.rev (.var 3)) 2 [4] .non)
def yfr{e g h SQ A C:List D}{l m i j n1 n2 M:Int}{n:List Int}{o f:Option B}(p:L2.atI e 1=some (.int l))(q:L2.atI e 2=some (.int m))(r:L2.atI e 3=some (.int i))(s:L2.atI e 4=some (.int j))
 (t:1+m%2=n1)(u:i/4%3=n2)(v:(-4611686018427387904<=n1/\n1<4611686018427387904)=True)(w:(-4611686018427387904<=n2/\n2<4611686018427387904)=True)
 (z:forN (zai (.name 2)) (exs Γ zet) (zal 0 n1.toNat) [~~~.lst e,some (.ow [.int (l%3-3)]),none,none,none]=some (.nx [~~~.lst e,some (.ow g),o,none,none]))
 (E:forN (zai (.name 2)) (exs Γ zdf) (zal 0 n2.toNat) [~~~.lst e,some (.ow g),o,some (.ow [.int (i%4-3)]),none]=some (.nx [~~~.lst e,some (.ow g),f,some (.ow h),none]))
 (F:ev Γ ztc [some (.lst e),some (.lst g),f.map B.d,some (.lst h),none]=some (.new SQ))(G:zqh SQ=some n)(H:maxI n=some M)(I:Bw 2 M=true)
 (J:ev Γ zmh [some (.lst e),some (.lst g),f.map B.d,some (.lst h),some (.int (2*M+1+j/32%9))]=some (.new A))(K:ev Γ zhq [some (.lst e),some (.lst g),f.map B.d,some (.lst h),some (.int (2*M+1+j/32%9))]=some (.new C))
 (L:opW .add (.lst A) (.lst C)=some (.new (A++C))):run Γ zbf 5 [.lst e]=some (.new (A++C)):=by
 show run Γ #v[.asg 1 (.lst #v[.bin .sub (.bin .mod (.ix (.var 0) (.int 1)) (.int 3)) (.int 3)]),.frr (.name 2) (.range1 (.bin .add (.int 1) (.bin .mod (.ix (.var 0) (.int 2)) (.int 2)))) zet,.asg 3 (.lst #v[.bin .sub (.bin .mod (.ix (.var 0) (.int 3)) (.int 4)) (.int 3)]),.frr (.name 2) (.range1 (.bin .mod (.bin .fdiv (.ix (.var 0) (.int 3)) (.int 4)) (.int 3))) zdf,.asg 4 (.bin .add (.bin .add (.bin .mul (.int 2) (.bi .max #v[ztc])) (.int 1)) (.bin .mod (.bin .fdiv (.ix (.var 0) (.int 4)) (.int 32)) (.int 9))),.ret (.bin .add zmh zhq)] 5 _=_;generalize zet=N at *;generalize zdf=O at *;generalize ztc=P at *;generalize zmh=Q at *;generalize zhq=R at *;walk_at "evh"
end
open Sf Mg
section
variable{Γ:Nat->∅}
theorem zoo:∀l:List Int,zqh (l.map D.int)=some l
 |[]=>rfl
 |a::l=>by
  show(zqh (l.map D.int)).map _=_;rw[zoo l];rfl
theorem zyf:∀l:List Int,l≠[]->∃m,maxI l=some m
 |[],h=>absurd rfl h
 |[a],_=>⟨a,rfl⟩
 |a::b::l,_=>by
  obtain⟨m,e⟩:=zyf (b::l) (λz=>by cases z)
  exact⟨_,by unfold maxI;rw[e];rfl⟩
def sq_in{x y:Int}(h:x*x<=y*y): -(y.natAbs:Int)<=x/\x<=(y.natAbs:Int):=by
 have e:(y.natAbs:Int)*(y.natAbs:Int)=y*y:=Qn y;have n:(0:Int)<=(y.natAbs:Int):=Yn _;generalize (y.natAbs:Int)=m at *;constructor
 ·refine Ky.mp λz=>?_;have:=Ws (show 0 < -m-x by omega) (show 0<m-x by omega)
  have d:(-m-x)*(m-x)=x*x-m*m:=by grind
  omega
 ·refine Ky.mp λz=>?_;have:=Ws (show 0<x-m by omega) (show 0<x+m by omega)
  have d:(x-m)*(x+m)=x*x-m*m:=by grind
  omega
def zrh{A C:List D}(h:A.length+C.length<=1000):opW .add (.lst A) (.lst C)=some (.new (A++C)):=by
 have d:(1000:Nat)<=PySem.sizeLine:=by decide
 exact if_pos (Wg h d)
def zkz{x:Int}(d : -31<=x)(e:x<=31):Bw x x=true:=zac vB vB vB vB
def ynv{d e:List Int}{o1 o2 o3:Option D}(f:∀x∈d++e,-31<=x/\x<=31)(i:d.length+e.length<=1000):ev Γ ztc [o1,some (.lst (d.map D.int)),o2,some (.lst (e.map D.int)),o3]=some (.new (((d++e).map λx=>x*x).map D.int)):=by
 have m:(1000:Nat)<=PySem.sizeLine:=by decide
 rw[Ya];refine zde (l:=d++e) (g:=D.int) (h:=D.int ∘ λx=>x*x) ?_ (by rw[Yc];omega) rfl (λx j=>?_)
 ·have n:=zrh (A:=d.map D.int) (C:=e.map D.int) (by rw[Zc,Zc];exact i);rw[Y7];clear f i m;walk_at "evh"
 ·have o:=zkz (f x j).1 (f x j).2;clear f i m j;walk_at "evh"
  rfl
def yfl{d:List Int}{o1 o2 o3 o4:Option D}(f:∀x∈d,-31<=x/\x<=31)(j:d.length<=1000):ev Γ zmh [o1,some (.lst (d.map D.int)),o2,o3,o4]=some (.new ((d.map Lb.low2).map pP)):=by
 have m:(1000:Nat)<=PySem.sizeLine:=by decide
 rw[Ya];refine zde (l:=d) (g:=D.int) (h:=pP ∘ Lb.low2) ?_ vB rfl (λx i=>?_)
 ·clear f j m;walk_at "evh"
 ·have o:=zkz (f x i).1 (f x i).2;have e:(pP ∘ Lb.low2) x=.tup [.int x,.int (x*x)]:=rfl;clear f j m i;walk_at "evh"
def yac{d:List Int}{o1 o2 o3:Option D}{T:Int}(f:∀x∈d,-31<=x/\x<=31)(j:d.length<=1000):ev Γ zhq [o1,o2,o3,some (.lst (d.map D.int)),some (.int T)]=some (.new ((d.reverse.map (Lb.high2 T)).map pP)):=by
 have m:(1000:Nat)<=PySem.sizeLine:=by decide
 rw[Ya];refine zde (l:=d.reverse) (g:=D.int) (h:=pP ∘ Lb.high2 T) ?_ (by rw[Qq];omega) rfl (λx i=>?_)
 ·have e:(d.map D.int).reverse=d.reverse.map D.int:=by rw[List.map_reverse]
  have n:∀l,lstD (.lst l)=some l:=λ_=>rfl
  clear f j m;walk_at "evh"
 ·have o:=zkz (f x (Jp.mp i)).1 (f x (Jp.mp i)).2;have e:(pP ∘ Lb.high2 T) x=.tup [.int x,.int (T-x*x)]:=rfl;clear f j m i;walk_at "evh"
structure RgOk(R:List Lb.Pt):Prop where
 tri:Lb.Tri R
 three:3<=R.length
 few:R.length<=30
 bd:∀p∈R,(-4000<=p.1/\p.1<=4000)/\(-4000<=p.2/\p.2<=4000)
def ykj{n m:Nat}{h i:List Int}(j:Gr n h)(l:Gr m i)(F:1<=n)(G:n<=10)(H:m<=10){M T:Int}(u:maxI ((h++i).map λx=>x*x)=some M)(v:2*M<T)(I:T<=2*M+20):RgOk (h.map Lb.low2++i.reverse.map (Lb.high2 T)):=by
 obtain⟨w,r⟩:=zhm u
 obtain⟨z,A,e⟩:=Zq.mp w
 have e:z*z=M:=e;have t : -3<=z/\z<=30:=by
  rcases Y0.mp A with q|q
  ·have:=j.bd z q;omega
  ·have:=l.bd z q;omega
 have f:∀x:Int,-3<=x->x<=30->x*x<=900:=λx a b=>by
  have:=Yx (show 0<=30-x by omega) (show 0<=30+x by omega)
  have o:(30-x)*(30+x)=900-x*x:=by grind
  omega
 have B:=f z t.1 t.2;rw[e] at B;have J:0<=M:=by
  have:=Qn z
  rw[<-e,<-this];exact Yx (Yn _) (Yn _)
 have g:∀x∈h++i,-(z.natAbs:Int)<=x/\x<=(z.natAbs:Int):=λx d=>sq_in (by rw[e];exact r _ (Zq.mpr ⟨x,d,rfl⟩))
 have K:=l.len;have L:=j.len;refine⟨Lb.tri_bows (m:=(z.natAbs:Int)) j.srt (List.pairwise_reverse.mpr l.srt) (λx d=>g x (Q5 _ d)) (λy C=>g y (Yk _ (Jp.mp C))) ?_,?_,?_,λp D=>?_⟩
 ·rw[Qn,e];exact v
 ·rw[Yc,Zc,Zc,Qq];omega
 ·rw[Yc,Zc,Zc,Qq];omega
 ·rcases Y0.mp D with q|q
  ·obtain⟨x,d,o⟩:=Zq.mp q
   have b:=j.bd x d;have s:=f x vB vB;have N:=r _ (Zq.mpr ⟨x,Q5 _ d,rfl⟩);have E:0<=x*x:=by rw[<-Qn x];exact Yx (Yn _) (Yn _)
   rw[<-o];exact⟨⟨by show -4000<=x;omega,by show x<=4000;omega⟩,by show -4000<=x*x;omega,by show x*x<=4000;omega⟩
  ·obtain⟨x,d,o⟩:=Zq.mp q
   have b:=l.bd x (Jp.mp d);have s:=f x vB vB;have E:0<=x*x:=by rw[<-Qn x];exact Yx (Yn _) (Yn _)
   rw[<-o];exact⟨⟨by show -4000<=x;omega,by show x<=4000;omega⟩,by show -4000<=T-x*x;omega,by show T-x*x<=4000;omega⟩
def zgx:∅:=run (tab []) zbf 5
def zqa:∀d w,d.length=1->zgx d=some w->run Γ zbf 5 d=some w:=λd w _ h=>zbv [] (λp e=>by cases e) vA d w h
def yfs{f:List Int}(S:8<=f.length):∃R,RgOk R/\zgx [.lst (f.map D.int)]=some (.new (R.map pP)):=by
 have d:∀(j:Nat) (h:j<8),L2.atI (f.map D.int) (j:Int)=some (.int (f[j]'vB)):=λj h=>zdb vB
 obtain⟨E,F⟩:∃h,L2.atI (f.map D.int) 1=some (.int h):=⟨_,d 1 vA⟩
 obtain⟨t,u⟩:∃h,L2.atI (f.map D.int) 2=some (.int h):=⟨_,d 2 vA⟩
 obtain⟨i,H⟩:∃h,L2.atI (f.map D.int) 3=some (.int h):=⟨_,d 3 vA⟩
 obtain⟨I,v⟩:∃h,L2.atI (f.map D.int) 4=some (.int h):=⟨_,d 4 vA⟩
 obtain⟨w,J,K,U⟩:∃n:Nat,1+t%2=(n:Int)/\1<=n/\n<=2:=⟨(1+t%2).toNat,by omega,by omega,by omega⟩
 obtain⟨A,B,V⟩:∃n:Nat,i/4%3=(n:Int)/\n<=2:=⟨(i/4%3).toNat,by omega,by omega⟩
 obtain⟨l,L,m,N⟩:=yej (Γ:=tab []) u (x:=E%3-3) ⟨by omega,by omega⟩ w vB
 obtain⟨C,O,o,P⟩:=zyx (Γ:=tab []) (c1:=some (.ow (l.map D.int))) (c2:=L) v (x:=i%4-3) ⟨by omega,by omega⟩ A vB
 have W:=m.len;have X:=o.len;have r:∀x∈l,-31<=x/\x<=31:=λx g=>by have:=m.bd x g;omega
 have by_:∀x∈C,-31<=x/\x<=31:=λx g=>by have:=o.bd x g;omega
 obtain⟨M,s⟩:=zyf ((l++C).map λx=>x*x) (λz=>by
  have:=congrArg List.length z
  rw[Zc,Yc,Ko] at this;omega)
 have G:=ykj m o K vB vB s (T:=2*M+1+I/32%9) vB vB;have Y:0<=M/\M<=1000:=by
  obtain⟨p,_⟩:=zhm s
  obtain⟨z,Q,e⟩:=Zq.mp p
  have e:z*z=M:=e;have Z : -31<=z/\z<=31:=by
   rcases Y0.mp Q with q|q
   ·exact r z q
   ·exact by_ z q
  have:=Yx (show 0<=31-z by omega) (show 0<=31+z by omega)
  have B:(31-z)*(31+z)=961-z*z:=by grind
  have p0:0<=z*z:=by rw[<-Qn z];exact Yx (Yn _) (Yn _)
  omega
 refine⟨_,G,?_⟩
 unfold zgx;rw[Y7];exact yfr (n1:=(w:Int)) (n2:=(A:Int)) F u H v J B (eq_true ⟨by omega,by omega⟩) (eq_true ⟨by omega,by omega⟩) (by rw[Z8];exact N) (by rw[Z8];exact P)
  (ynv (λx g=>(Y0.mp g).elim (r x) (by_ x)) vB) (zoo _) s (zac vA vA vB vB) (yfl r vB) (yac by_ vB) (zrh (by rw[Zc,Zc,Zc,Zc,Qq];omega))
end
open Sf Mg
section
variable{Γ:Nat->∅}
abbrev zbj:Ss:=#v[.asg 3 (.tup #v[.bin .add (.ix (.var 1) (.int 0)) (.ix (.var 2) (.int 0)),.bin .add (.ix (.var 1) (.int 1)) (.ix (.var 2) (.int 1))]),.asg 4 (.bin .mod (.ix (.var 0) (.int 0)) (.int 5)),.iff (.cmp .eq (.var 4) (.int 2)) #v[.ret (.lst #v[.tup #v[.int 0,.int 0],.var 1,.var 3,.var 2])] .nil,.iff (.cmp .eq (.var 4) (.int 3)) #v[.ret (.lst #v[.tup #v[.int 0,.int 0],.var 1,.var 2])] .nil,.iff (.cmp .eq (.var 4) (.int 4)) #v[.asg 5 (.tup #v[.bin .add (.ix (.var 1) (.int 0)) (.ix (.var 3) (.int 0)),.bin .add (.ix (.var 1) (.int 1)) (.ix (.var 3) (.int 1))]),.asg 6 (.tup #v[.bin .add (.ix (.var 2) (.int 0)) (.ix (.var 3) (.int 0)),.bin .add (.ix (.var 2) (.int 1)) (.ix (.var 3) (.int 1))]),.ret (.lst #v[.tup #v[.int 0,.int 0],.var 1,.var 5,.tup #v[.bin .mul (.int 2) (.ix (.var 3) (.int 0)),.bin .mul (.int 2) (.ix (.var 3) (.int 1))],.var 6,.var 2])] .nil,.ret (.call 105 #v[.var 0])]
def zwt{h:List D}{i j l m e f g d:Int}(o:L2.atI h 1=some (.int i))(p:L2.atI h 2=some (.int j))(q:L2.atI h 3=some (.int l))(r:L2.atI h 4=some (.int m))(s:1+i%5=e)(t:j%7-3=f)(u:0-l%4=g)(v:1+m%5=d)
 (w:Bw e d=true)(z:Bw f g=true):run Γ zbd 7 [.lst h]=outO (exs Γ zbj [~~~.lst h,~~~.tup [.int e,.int f],~~~(.tup [.int g,.int (if e*d<=f*g then d+10 else d)]),none,none,none,none]):=by
 show run Γ (.cons (.asg 1 (.tup #v[.bin .add (.int 1) (.bin .mod (.ix (.var 0) (.int 1)) (.int 5)),.bin .sub (.bin .mod (.ix (.var 0) (.int 2)) (.int 7)) (.int 3)])) (.cons (.asg 2 (.tup #v[.bin .sub (.int 0) (.bin .mod (.ix (.var 0) (.int 3)) (.int 4)),.bin .add (.int 1) (.bin .mod (.ix (.var 0) (.int 4)) (.int 5))])) (.cons (.iff (.cmp .le (.bin .mul (.ix (.var 1) (.int 0)) (.ix (.var 2) (.int 1))) (.bin .mul (.ix (.var 1) (.int 1)) (.ix (.var 2) (.int 0)))) #v[.asg 2 (.tup #v[.ix (.var 2) (.int 0),.bin .add (.ix (.var 2) (.int 1)) (.int 10)])] .nil) zbj))) 7 _=_;generalize zbj=A at *;by_cases c:e*d<=f*g
 ·rw[if_pos c];have n:decide (e*d<=f*g)=true:=decide_eq_true c;clear c;walk_at "evh"
 ·rw[if_neg c];have n:decide (e*d<=f*g)=false:=decide_eq_false c;clear c;walk_at "evh"
section
variable{HS:List D}{h0 u0 u1 v0 v1:Int}(a0:L2.atI HS 0=some (.int h0))
include a0
def ring_2(e:h0%5=2):outO (exs Γ zbj [~~~.lst HS,~~~.tup [.int u0,.int u1],~~~.tup [.int v0,.int v1],none,none,none,none])=some (.new [.tup [.int 0,.int 0],.tup [.int u0,.int u1],.tup [.int (u0+v0),.int (u1+v1)],.tup [.int v0,.int v1]]):=by
 unfold zbj;walk_at "evh"
def ring_3(e:h0%5=3):outO (exs Γ zbj [~~~.lst HS,~~~.tup [.int u0,.int u1],~~~.tup [.int v0,.int v1],none,none,none,none])=some (.new [.tup [.int 0,.int 0],.tup [.int u0,.int u1],.tup [.int v0,.int v1]]):=by
 unfold zbj;walk_at "evh"
def ring_4(e:h0%5=4)(d:Bw 2 (u0+v0)=true)(f:Bw 2 (u1+v1)=true):outO (exs Γ zbj [~~~.lst HS,~~~.tup [.int u0,.int u1],~~~.tup [.int v0,.int v1],none,none,none,none])=some (.new [.tup [.int 0,.int 0],.tup [.int u0,.int u1],.tup [.int (u0+(u0+v0)),.int (u1+(u1+v1))],.tup [.int (2*(u0+v0)),.int (2*(u1+v1))],.tup [.int (v0+(u0+v0)),.int (v1+(u1+v1))],.tup [.int v0,.int v1]]):=by
 unfold zbj;walk_at "evh"
def yki{z:Int}{φ:∅}(d:Γ 105=φ){w:W}(e:h0%5=z)(f:decide (z=2)=false)(g:decide (z=3)=false)(h:decide (z=4)=false)(q:φ [.lst HS]=some w):outO (exs Γ zbj [~~~.lst HS,~~~.tup [.int u0,.int u1],~~~.tup [.int v0,.int v1],none,none,none,none])=some w:=by
 unfold zbj;walk_at "evh"
end
def zfe:∅:=run (tab [(105,zgx)]) zbd 7
def znz(d:Γ 105=zgx):∀e w,e.length=1->zfe e=some w->run Γ zbd 7 e=some w:=λe w _ h=>zbv [(105,zgx)] (λp f=>by rw[Z0.mp f];exact d) vA e w h
def ydd{m:List Int}(s:8<=m.length):∃R,RgOk R/\zfe [.lst (m.map D.int)]=some (.new (R.map pP)):=by
 have l:∀(j:Nat) (h:j<8),L2.atI (m.map D.int) (j:Int)=some (.int (m[j]'vB)):=λj h=>zdb vB
 obtain⟨q,r⟩:∃h,L2.atI (m.map D.int) 0=some (.int h):=⟨_,l 0 vA⟩
 obtain⟨t,v⟩:∃h,L2.atI (m.map D.int) 1=some (.int h):=⟨_,l 1 vA⟩
 obtain⟨A,B⟩:∃h,L2.atI (m.map D.int) 2=some (.int h):=⟨_,l 2 vA⟩
 obtain⟨C,E⟩:∃h,L2.atI (m.map D.int) 3=some (.int h):=⟨_,l 3 vA⟩
 obtain⟨F,G⟩:∃h,L2.atI (m.map D.int) 4=some (.int h):=⟨_,l 4 vA⟩
 obtain⟨i,H,P⟩:∃u,1+t%5=u/\1<=u/\u<=5:=⟨_,rfl,by omega,by omega⟩
 obtain⟨g,I,Q⟩:∃u,A%7-3=u /\ -3<=u/\u<=3:=⟨_,rfl,by omega,by omega⟩
 obtain⟨d,J,S⟩:∃u,0-C%4=u /\ -3<=u/\u<=0:=⟨_,rfl,by omega,by omega⟩
 obtain⟨v1,K,T⟩:∃u,1+F%5=u/\1<=u/\u<=5:=⟨_,rfl,by omega,by omega⟩
 have L:=zwt (Γ:=tab [(105,zgx)]) v B E G H I J K (zac vB vB vB vB) (zac vB vB vB vB);unfold zfe;rw[L];have small : -9<=g*d/\g*d<=9:=by
  have U:=Yx (show 0<=3-g by omega) (show 0 <= -d by omega);have V:=Yx (show 0<=3+g by omega) (show 0 <= -d by omega);have X:(3-g) * -d=g*d-3*d:=by grind
  have Y:(3+g) * -d = -(g*d)-3*d:=by grind
  omega
 obtain⟨n,M,Z,cr⟩:∃w,(if i*v1<=g*d then v1+10 else v1)=w/\(1<=w/\w<=15)/\0<Lb.crP (i,g) (d,w):=by
  by_cases c:i*v1<=g*d
  ·refine⟨_,if_pos c,⟨by omega,by omega⟩,?_⟩
   show 0<i*(v1+10)-g*d;have p:=Yx (show 0<=i-1 by omega) (show 0<=v1+10 by omega);have f:(i-1)*(v1+10)=i*(v1+10)-(v1+10):=by grind
   omega
  ·refine⟨_,if_neg c,⟨by omega,by omega⟩,?_⟩
   show 0<i*v1-g*d;omega
 rw[M];have N:∀{R:List Lb.Pt}{w:W},w=.new (R.map pP)->some w=some (W.new (R.map pP)):=λe=>by rw[e]
 rcases(show q%5=2\/q%5=3\/q%5=4\/(q%5=0\/q%5=1) by omega) with c|c|c|c
 ·rw[ring_2 r c];refine⟨[(0,0),(i,g),(i+d,g+n),(d,n)],⟨Lb.tri_box cr,vC,vC,λp o=>?_⟩,rfl⟩
  simp only[Zh,Zr,or_false] at o;rcases o with rfl|rfl|rfl|rfl<;>dsimp only<;>omega
 ·rw[ring_3 r c];refine⟨[(0,0),(i,g),(d,n)],⟨Lb.tri_3 cr,vC,vC,λp o=>?_⟩,rfl⟩
  simp only[Zh,Zr,or_false] at o;rcases o with rfl|rfl|rfl<;>dsimp only<;>omega
 ·rw[ring_4 r c (zac vA vA vB vB) (zac vA vA vB vB)];refine⟨[(0,0),(i,g),(i+(i+d),g+(g+n)),(2*(i+d),2*(g+n)),(d+(i+d),n+(g+n)),(d,n)],⟨Lb.tri_6 cr,vC,vC,λp o=>?_⟩,rfl⟩
  simp only[Zh,Zr,or_false] at o;rcases o with rfl|rfl|rfl|rfl|rfl|rfl<;>dsimp only<;>omega
 ·obtain⟨R,O,e⟩:=yfs s
  refine⟨R,O,yki r (Γ:=tab [(105,zgx)]) (z:=q%5) (φ:=zgx) rfl rfl (decide_eq_false vB) (decide_eq_false vB) (decide_eq_false vB) e⟩
abbrev zge:Ss:=#v[.asg 9 (.call 103 #v[.bin .add (.bin .mul (.var 7) (.var 2)) (.bin .mod (.ix (.var 0) (.int 6)) (.var 3)),.var 4]),.app 6 (.tup #v[.var 9,.call 103 #v[.bin .add (.bin .mul (.var 8) (.var 2)) (.bin .mod (.ix (.var 0) (.int 7)) (.var 3)),.var 4]])]
def yco{φ:∅}(h:Γ 103=φ){d L:List D}{x y b o s e f:Int}{i j l:Option B}{X Y:D}(m:L2.atI d 6=some (.int e))(n:L2.atI d 7=some (.int f))(g:0<o)(p:Bw x b=true)(q:Bw y b=true)
 (r:φ [.int (x*b+e%o),.int s]=some (.val X))(t:φ [.int (y*b+f%o),.int s]=some (.val Y))(l1:lf X=true)(l2:lf Y=true)(u:(L.length<PySem.sizeLine)=True):
  exs Γ zge [~~~.lst d,i,~~~.int b,~~~.int o,~~~.int s,j,some (.ow L),~~~.int x,~~~.int y,l]=some (.nx [~~~.lst d,i,~~~.int b,~~~.int o,~~~.int s,j,some (.ow (L++[.tup [X,Y]])),~~~.int x,~~~.int y,~~~X]):=by
 have v:=zap (a:=e) g;have w:=zap (a:=f) g;have z:(o=0)=False:=eq_false vB;unfold zge;clear g;walk_at "evh"
def yjq{φ ψ:∅}(j:Γ 46=ψ)(i:Γ 103=φ){e d A C O:List D}{g h b o s k:Int}{m:D}{c1 l n p:Option B}(q:L2.atI e 0=some (.int g))(r:L2.atI e 5=some (.int h))
 (t:ψ [.lst e]=some (.new d))(u:lfL d=true)(v:L2.atI [D.int 1,D.int (1+h%1000000000)] (g/5%2)=some (.int b))(w:L2.atI [D.int 10,D.int 1000000000000000000] (g/10%2)=some (.int o))(z:L2.atI [D.int 1,D.int (1+h%6)] (g/20%2)=some (.int s))
 (mn:minN d=some m)(E:idxW (.lst d) m=some (.val (.int k)))(F:cutD d (some k) none=A)(G:cutD d none (some k)=C)(H:opW .add (.lst A) (.lst C)=some (.new (A++C)))(I:lfL (A++C)=true)
 (f:forN (zai (.tup [7,8])) (exs Γ zge) (A++C) [~~~.lst e,some (.ow d),~~~.int b,~~~.int o,~~~.int s,~~~.int k,some (.ow []),none,none,none]=some (.nx [~~~.lst e,some (.ow d),~~~.int b,~~~.int o,~~~.int s,~~~.int k,some (.ow O),l,n,p])):
  run Γ zav 10 [.lst e]=some (.new O):=by
 show run Γ #v[.asg 1 (.call 46 #v[.var 0]),.asg 2 (.ix (.lst #v[.int 1,.bin .add (.int 1) (.bin .mod (.ix (.var 0) (.int 5)) (.bin .pow (.int 10) (.int 9)))]) (.bin .mod (.bin .fdiv (.ix (.var 0) (.int 0)) (.int 5)) (.int 2))),.asg 3 (.ix (.lst #v[.int 10,.bin .pow (.int 10) (.int 18)]) (.bin .mod (.bin .fdiv (.ix (.var 0) (.int 0)) (.int 10)) (.int 2))),.asg 4 (.ix (.lst #v[.int 1,.bin .add (.int 1) (.bin .mod (.ix (.var 0) (.int 5)) (.int 6))]) (.bin .mod (.bin .fdiv (.ix (.var 0) (.int 0)) (.int 20)) (.int 2))),.asg 5 (.idx (.var 1) (.bi .min #v[.var 1])),.asg 6 (.lst .nil),.frr (.tup [7,8]) (.seq (.bin .add (.sl (.var 1) (.som (.var 5)) .non) (.sl (.var 1) .non (.som (.var 5))))) zge,.retV 6] 10 _=_;generalize zge=J at *;walk_at "evh"
end
open Sf Mg
theorem argB{d:Nat->Nat->Bool}{k n:Nat}(f:∀j,j<=n->j≠k->d k j=true)(g:∀j,j<=n->j≠k->d j k=false):∀m,m<=n->(m<k->PySem.argBest d m<=m)/\(k<=m->PySem.argBest d m=k)
 |0,_=>⟨λ_=>Zl _,λh=>by show 0=k;omega⟩
 |m+1,i=>by
  obtain⟨a,b⟩:=argB f g m vB
  unfold PySem.argBest;by_cases e:k<=m
  ·rw[b e,g (m+1) i vB];exact⟨λh=>by omega,λ_=>rfl⟩
  ·by_cases l:k=m+1
   ·have:=a vB
    rw[<-l,f _ vB vB];exact⟨λh=>by omega,λ_=>rfl⟩
   ·have:=a vB
    refine⟨λ_=>?_,λh=>by omega⟩
    split
    ·exact Zl _
    ·omega
def ltN_P{p q:Lb.Pt}:ltN (pP p) (pP q)=true↔Lb.ltP p q:=by
 have e:ltN (pP p) (pP q)=lt2 p.1 p.2 q.1 q.2:=rfl;rw[e];unfold lt2 fstD Lb.ltP;by_cases h:p.1=q.1
 ·by_cases d:p.2=q.2
  ·simp[h,d]
  ·simp[h,d]
 ·simp[h]
def zgd{R:List Lb.Pt}{i:Nat}(d:i<R.length):R[i]? = some (R.getD i (0,0)):=by
 rw[Zi,Zg d];rfl
def yml{R:List Lb.Pt}{k:Nat}(F:Lb.LoP R k):minN (R.map pP)=some (pP (R.getD k (0,0))):=by
 have all:((R.map pP).all λd=>(nst d).isSome)=true:=U2.mpr λd h=>by
  obtain⟨q,_,e⟩:=Zq.mp h
  rw[<-e];rfl
 unfold minN;rw[if_pos all];have g:∀i,i<R.length->(R.map pP).getD i .non=pP (R.getD i (0,0)):=λi l=>by
  rw[Zi,Zj,zgd l];rfl
 have lk:=F.lt;have e:zuo (R.map pP)=k:=by
  unfold zuo;rw[Zc];refine(argB (n:=R.length-1) (λj m f=>?_) (λj m f=>?_) (R.length-1) (Zl _)).2 vB
  ·show ltN _ _=true;rw[g k lk,g j vB];exact ltN_P.mpr (F.low j _ _ f (zgd lk) (zgd vB))
  ·show ltN _ _=false;rw[g k lk,g j vB];refine Jl.mpr λz=>?_;exact Lb.ltP_irr _ (Lb.ltP_trans (ltN_P.mp z) (F.low j _ _ f (zgd lk) (zgd vB)))
 rw[e,Zj,zgd lk];rfl
def pP_inj{a b:Lb.Pt}(h:eqD (pP a) (pP b)=true):a=b:=by
 unfold pP at h;simp only[eqD,eqL,Zk,beq_iff_eq,and_true] at h;exact Ys h.1 h.2
theorem dOk_P:∀R:List Lb.Pt,dOkL 49 (R.map pP)=true
 |[]=>rfl
 |p::R=>by
  show(dOk 49 (pP p) && dOkL 49 (R.map pP))=true;rw[dOk_P R];rfl
theorem ymk:∀R:List Lb.Pt,lfL (R.map pP)=true
 |[]=>rfl
 |p::R=>by
  show(lf (pP p) && lfL (R.map pP))=true;rw[ymk R];rfl
def idx_P{R:List Lb.Pt}{k:Nat}(f:R.Nodup)(d:k<R.length):idxW (.lst (R.map pP)) (pP (R.getD k (0,0)))=some (.val (.int (k:Int))):=by
 have e:R.getD k (0,0)=R[k]:=by rw[Zi,Zg d];rfl
 have h:idxD (R.map pP) (pP (R.getD k (0,0)))=some k:=by
  unfold idxD;rw[dOk_P,if_pos (show(true && dOk 50 (pP (R.getD k (0,0))))=true from rfl)];refine Uo.mpr ⟨by rw[Zc];exact d,?_,λj g=>?_⟩
  ·rw[U0,e];exact zme 50 _ rfl
  ·rw[U0,e];intro z;have:=pP_inj z
   have:=(Kg (h₀:=by omega) (h₁:=d) f).mp this
   omega
 show(idxD _ _).map _=_;rw[h];rfl
abbrev zft:List (Nat×(∅)):=[(46,zfe),(103,zct)]
def zbk:∅:=run (tab zft) zav 10
section
variable{Γ:Nat->∅}
def zlp(g:Γ 46=zfe)(e:Γ 103=zct):∀d w,d.length=1->zbk d=some w->run Γ zav 10 d=some w:=λd w _ h=>zbv zft (by
 intro p f;simp only[zft,Zh,Zr,or_false] at f;rcases f with rfl|rfl<;>assumption) vA d w h
end
structure Sh5(l:List (Rat×Rat)):Prop where
 shp:IsShp l
 few:l.length<=30
 ov:∃s:Int,s≠0/\s.natAbs<2^3/\∀q∈l,Ov s 62 q
 sy:SyL 62 3 l
def zvr{a b:D}{i:Int}(h:i=0\/i=1):L2.atI [a,b] i=some (if i=0 then a else b):=by
 rcases h with h|h<;>subst h<;>rfl
def zjb(x:Rat):lf (fr x)=true:=rfl
def zfu{hs:List Int}(T:8<=hs.length):∃l,Sh5 l/\zbk [.lst (hs.map D.int)]=some (.new (l.map stD)):=by
 have i:∀(j:Nat) (h:j<8),L2.atI (hs.map D.int) (j:Int)=some (.int (hs[j]'vB)):=λj h=>zdb vB
 obtain⟨t,U⟩:∃h,L2.atI (hs.map D.int) 0=some (.int h):=⟨_,i 0 vA⟩
 obtain⟨K,V⟩:∃h,L2.atI (hs.map D.int) 5=some (.int h):=⟨_,i 5 vA⟩
 obtain⟨n,W⟩:∃h,L2.atI (hs.map D.int) 6=some (.int h):=⟨_,i 6 vA⟩
 obtain⟨u,X⟩:∃h,L2.atI (hs.map D.int) 7=some (.int h):=⟨_,i 7 vA⟩
 obtain⟨R,r,Y⟩:=ydd T
 have L:=r.tri.nodup r.three;have Z:=r.three;have rf:=r.few;obtain⟨k,A⟩:=Lb.lo_ex L vB
 obtain⟨b,i1,b1,b2⟩:∃b:Int,L2.atI [D.int 1,D.int (1+K%1000000000)] (t/5%2)=some (.int b)/\1<=b/\b<=1000000000:=by
  rw[zvr vB];by_cases z:t/5%2=0
  ·exact⟨1,by rw[if_pos z],by decide,by decide⟩
  ·exact⟨_,by rw[if_neg z],by omega,by omega⟩
 obtain⟨o,i2,o1,o2⟩:∃b:Int,L2.atI [D.int 10,D.int 1000000000000000000] (t/10%2)=some (.int b)/\1<=b/\b<=1000000000000000000:=by
  rw[zvr vB];by_cases z:t/10%2=0
  ·exact⟨10,by rw[if_pos z],by decide,by decide⟩
  ·exact⟨_,by rw[if_neg z],by decide,by decide⟩
 obtain⟨s,i3,s1,s2⟩:∃b:Int,L2.atI [D.int 1,D.int (1+K%6)] (t/20%2)=some (.int b)/\1<=b/\b<=6:=by
  rw[zvr vB];by_cases z:t/20%2=0
  ·exact⟨1,by rw[if_pos z],by decide,by decide⟩
  ·exact⟨_,by rw[if_neg z],by omega,by omega⟩
 have f6:0<=n%o/\n%o<o:=⟨Qc _ vB,Ks _ vB⟩;have f7:0<=u%o/\u%o<o:=⟨Qc _ vB,Ks _ vB⟩;have g:s.natAbs<2^9000:=Ze (show s.natAbs<2^3 by omega) (Bn vA);have sz:(1000:Nat)<=PySem.sizeLine:=by decide
 refine⟨(rot R k).map (Lb.spot2 b (n%o) (u%o) s),?_,?_⟩
 ·have key:∀q∈(rot R k).map (Lb.spot2 b (n%o) (u%o) s),∃x y:Int,q.1=Rat.divInt x s/\q.2=Rat.divInt y s/\x.natAbs<2^62/\y.natAbs<2^62:=λq v=>by
   obtain⟨p,B,e⟩:=Zq.mp v
   have m:=r.bd p (rot_mem.mp B);have M:∀x:Int,-4000<=x->x<=4000 -> -4000000000000<=x*b/\x*b<=4000000000000:=λx C E=>by
    have g1:=Qs E (show 0<=b by omega);have g2:=Qs C (show 0<=b by omega);omega
   have k1:=M p.1 m.1.1 m.1.2;have k2:=M p.2 m.2.1 m.2.2;have w:(2:Nat)^62=4611686018427387904:=by decide
   rw[<-e];exact⟨p.1*b+n%o,p.2*b+u%o,rfl,rfl,by rw[w];omega,by rw[w];omega⟩
  have F:s.natAbs<2^3:=by omega
  refine⟨Lb.shp2 r.tri Z A b1 s1,by rw[Zc,zfv];exact rf,⟨s,by omega,F,λq v=>⟨key q v⟩⟩,λq v=>?_⟩
  obtain⟨x,y,e1,e2,C,E⟩:=key q v
  exact⟨by rw[e1];exact zid vB C F,by rw[e2];exact zid vB E F⟩
 ·have N:k<=(R.map pP).length:=by rw[Zc];have:=A.lt;omega
  have O:(R.map pP).drop k++(R.map pP).take k=(rot R k).map pP:=by rw[zwq];rfl
  obtain⟨a1,f,G,H,J,rfl⟩:=zqk (bt:=zai (.tup [7,8])) (fb:=exs (tab zft) zge) (I:=λj P=>∃G H J,P=[~~~.lst (hs.map D.int),some (.ow (R.map pP)),~~~.int b,~~~.int o,~~~.int s,~~~.int (k:Int),some (.ow (((rot R k).take j).map λp=>stD (Lb.spot2 b (n%o) (u%o) s p))),G,H,J]) ((rot R k).map pP) 0 [~~~.lst (hs.map D.int),some (.ow (R.map pP)),~~~.int b,~~~.int o,~~~.int s,~~~.int (k:Int),some (.ow []),none,none,none] ⟨none,none,none,rfl⟩ λj d P Q hi=>by
   obtain⟨G,H,J,rfl⟩:=hi
   rw[Zj] at Q;obtain⟨p,B,e⟩:=Zb.mp Q
   subst e;have m:=r.bd p (rot_mem.mp (Yq B));have S:∀x:Int,-4000<=x->x<=4000->Bw x b=true:=λx C E=>zac vB vB vB vB
   refine⟨_,_,rfl,yco (Γ:=tab zft) (φ:=zct) (x:=p.1) (y:=p.2) rfl W X vB (S p.1 m.1.1 m.1.2) (S p.2 m.2.1 m.2.2) (zix vB g) (zix vB g) (zjb _) (zjb _) (eq_true ?_),~~~.int p.1,~~~.int p.2,~~~fr (Rat.divInt (p.1*b+n%o) s),?_⟩
   ·rw[Zc,Wy];have:(rot R k).length=R.length:=zfv
    omega
   ·rw[Wc,List.take_succ,B,Y7];rfl
  rw[Wc,Zc,Bd] at f;unfold zbk;rw[Ya];refine yjq (Γ:=tab zft) (φ:=zct) (ψ:=zfe) (c1:=none) rfl rfl U V Y (ymk R) i1 i2 i3 (yml A) (idx_P L A.lt) (zzz N) (cutTo N) (zrh (by rw[Yi,Wy,Zc];omega)) (by rw[O];exact ymk _) (by rw[O];exact f)
open Sf Mg
section
variable{Γ:Nat->∅}
def wide{l:List (Rat×Rat)}(h:IsShp l):(at0 l 0).1<(at0 l 1).1:=by
 have A:=h.three;have d:=zrf (l:=l) (i:=0) vB;have m:=zrf (l:=l) (i:=1) vB;have g:=zrf (l:=l) (i:=2) vB;have p:=nodup h;have o:∀{i j:Nat}{a b:Rat×Rat},l[i]? = some a->l[j]? = some b->i≠j->a≠b:=λ{i j a b} r s n e=>by
  subst e;obtain⟨l1,t⟩:=Zo.mp r
  obtain⟨l2,u⟩:=Zo.mp s
  exact n ((Kg p).mp (t.trans u.symm))
 have v:=h.first 0 _ _ d m;have w:=h.first 1 _ _ d g;have c:=h.conv 1 _ _ _ (by rw[show 1+l.length-1=l.length by omega,K3];exact d) m (Yq g) (o g d vA) (o g m vA);rcases v with f|⟨f,B⟩
 ·exact f
 ·exfalso
  unfold oR at c;have C:(at0 l 0).1<=(at0 l 2).1:=by
   rcases w with q|⟨q,_⟩
   ·exact Zu q
   ·rw[q];exact Wq
  have:=Zp (show 0<=(at0 l 1).2-(at0 l 0).2 by grind) (show 0<=(at0 l 2).1-(at0 l 0).1 by grind)
  have z:(at0 l 1).1-(at0 l 0).1=0:=by grind
  rw[z,Rat.zero_mul] at c;grind
def wd(l:List (Rat×Rat)):Rat:=(at0 l 1).1-(at0 l 0).1
def zmy{l:List (Rat×Rat)}(h:IsShp l):0<wd l:=by have:=wide h;unfold wd;grind
def alF(l r:List (Rat×Rat)):Rat:=wd l/wd r
def alP(l r:List (Rat×Rat)):Rat×Rat:=mn (at0 l 0) (sc (alF l r) (at0 r 0))
def ybk{l r:List (Rat×Rat)}(d:IsShp l)(e:IsShp r):0<alF l r:=by
 unfold alF;rw[Yz];exact Zz (zmy d) (Kj.mpr (zmy e))
abbrev zhf:List (Nat×(∅)):=[(20,zfg),(10,B8),(68,zbo),(66,zcn)]
def zgm:∅:=run (tab zhf) zjp 5
def ok_alike(f:Γ 20=zfg)(g:Γ 10=B8)(i:Γ 68=zbo)(j:Γ 66=zcn):∀d w,d.length=2->zgm d=some w->run Γ zjp 5 d=some w:=λd w _ h=>zbv zhf (by
 intro p e;simp only[zhf,Zh,Zr,or_false] at e;rcases e with rfl|rfl|rfl|rfl<;>assumption) vA d w h
def ybi{Ov Mi Si Pu:∅}(q:Γ 20=Ov)(r:Γ 10=Mi)(s:Γ 68=Si)(t:Γ 66=Pu){L R G E:List D}{a b h i j u l v m w n p f d g:D}{e:Bool}(F:L2.atI L 0=some (.tup [h,i]))(l1:L2.atI L 1=some (.tup [j,u]))(H:L2.atI R 0=some (.tup [l,v]))(I:L2.atI R 1=some (.tup [m,w]))
 (J:Mi [j,h]=some (.val a))(K:Mi [m,l]=some (.val b))(o:Ov [a,b]=some (.val f))(M:Si [.lst R,f]=some (.new G))(gg:L2.atI G 0=some (.tup [n,p]))(N:Mi [h,n]=some (.val d))(O:Mi [i,p]=some (.val g))(P:Pu [.lst G,.tup [d,g]]=some (.new E))
 (Q:cmpD .eq (.lst E) (.lst L)=some e)(z:lf f=true)(A:lfL G=true)(B:lf d=true)(C:lf g=true):run Γ zjp 5 [.lst L,.lst R]=some (.val (if e=true then .tup [f,.tup [d,g]] else .non)):=by
 unfold zjp;cases e
 ·walk_at "evh"
 ·walk_at "evh"
end
open Sf Mg
section
variable{Γ:Nat->∅}
def ygu{a b:Rat×Rat}(h:eqD (stD a) (stD b)=true):a=b:=by
 unfold stD fr at h;simp only[eqD,eqL,Zk,beq_iff_eq,and_true] at h;exact Ys (Rat.ext h.1.1 (by have:=h.1.2;omega)) (Rat.ext h.2.1 (by have:=h.2.2;omega))
theorem yib:∀{l r:List (Rat×Rat)},eqL (l.map stD) (r.map stD)=true->l=r
 |[],[],_=>rfl
 |[],_::_,h=>by simp[eqL] at h
 |_::_,[],h=>by simp[eqL] at h
 |a::l,b::r,h=>by
  simp only[Zx,eqL,Zk] at h;rw[ygu h.1,yib h.2]
def yie(l r:List (Rat×Rat)):cmpD .eq (.lst (l.map stD)) (.lst (r.map stD))=some (decide (l=r)):=by
 show(if (dOkL 49 (l.map stD) && dOkL 49 (r.map stD))=true then some (eqL (l.map stD) (r.map stD)) else none)=_;rw[zor,zor,if_pos (show(true && true)=true from rfl)];congr 1
 by_cases e:l=r
 ·subst e;rw[eqL_self 49 _ (zor _),decide_eq_true rfl]
 ·rw[decide_eq_false e];exact Jl.mpr λz=>e (yib z)
def zxy{x:Rat}(h:0<x):0<x.num:=by
 refine cast_pos.mp ?_;rw[zsg];exact Zz h (cast_pos.mpr (den_pos _))
def ybj{l r:List (Rat×Rat)}(s:IsShp l)(t:IsShp r)(v:SzL 165 l)(h:SzL 165 r)(w:r.length<=1000):
  zgm [.lst (l.map stD),.lst (r.map stD)]=some (.val (if decide ((r.map (sc (alF l r))).map (pl (alP l r))=l)=true then .tup [fr (alF l r),stD (alP l r)] else .non)):=by
 have P:=s.three;have Q:=t.three;have d:=v _ (zdx (l:=l) (i:=0) vB);have j:=v _ (zdx (l:=l) (i:=1) vB);have m:=h _ (zdx (l:=r) (i:=0) vB);have n:=h _ (zdx (l:=r) (i:=1) vB);have R:=zmy s;have S:=zmy t;have A:Sz 331 (wd l):=j.1.sub d.1;have B:Sz 331 (wd r):=n.1.sub m.1;have I:=ybk s t;have D:wd r≠0:=by grind
 have u:Sz 662 (alF l r):=A.div B D;have J:B8 [fr (at0 l 1).1,fr (at0 l 0).1]=some (.val (fr (wd l))):=Bx (Bt j.1 d.1 vA vA);have K:B8 [fr (at0 r 1).1,fr (at0 r 0).1]=some (.val (fr (wd r))):=Bx (Bt n.1 m.1 vA vA);have o:zfg [fr (wd l),fr (wd r)]=some (.val (fr (alF l r))):=Bx (C:=λx y=>okRR x y && decide (y≠0)) (g:=λx y=>fr (x/y)) (by rw[Bt A B vA vA,decide_eq_true D];rfl);have L:zbo [.lst (r.map stD),fr (alF l r)]=some (.new ((r.map (sc (alF l r))).map stD)):=zex w (λq p=>⟨(h q p).1.mono vA,(h q p).2.mono vA⟩) (u.mono vA) (zxy I);have E:SzL 827 (r.map (sc (alF l r))):=λq p=>by
  obtain⟨z,F,e⟩:=Zq.mp p
  rw[<-e];exact⟨(h z F).1.mul u,(h z F).2.mul u⟩
 have G:at0 (r.map (sc (alF l r))) 0=sc (alF l r) (at0 r 0):=zre vB;have f:=E _ (zdx (l:=r.map (sc (alF l r))) (i:=0) (by rw[Zc];omega));rw[G] at f;have M:B8 [fr (at0 l 0).1,fr (sc (alF l r) (at0 r 0)).1]=some (.val (fr (alP l r).1)):=Bx (Bt d.1 f.1 vA vA);have N:B8 [fr (at0 l 0).2,fr (sc (alF l r) (at0 r 0)).2]=some (.val (fr (alP l r).2)):=Bx (Bt d.2 f.2 vA vA);have O:Sz 993 (alP l r).1/\Sz 993 (alP l r).2:=⟨d.1.sub f.1,d.2.sub f.2⟩;have H:=zkk (l:=r.map (sc (alF l r))) (by rw[Zc];exact w) E O;rw[yhc] at H;have gg:=ybb (l:=r.map (sc (alF l r))) (k:=0) (by rw[Zc];omega);rw[show(r.map (sc (alF l r))).getD 0 (0,0)=sc (alF l r) (at0 r 0) from G] at gg;unfold zgm;exact ybi (Γ:=tab zhf) (Ov:=zfg) (Mi:=B8) (Si:=zbo) (Pu:=zcn) rfl rfl rfl rfl (ybb (l:=l) (k:=0) vB) (ybb (l:=l) (k:=1) vB) (ybb (l:=r) (k:=0) vB) (ybb (l:=r) (k:=1) vB) J K o L gg M N H (yie _ _) (zjb _) (zcf _) (zjb _) (zjb _)
structure Kx(l:List (Rat×Rat)):Prop where
 sh:IsShp l
 zl:SzL 165 l
 ln:l.length<=100
 ov:∃d:Int,d≠0/\d.natAbs<2^20/\∀q∈l,Ov d 90 q
def yhn{l:List (Rat×Rat)}(h:Kx l):zbl [.lst (l.map stD)]=some (.val (fr (Ar l)))/\Sz 410 (Ar l):=by
 obtain⟨d,f,g,i⟩:=h.ov
 have j:=h.sh.three;have m:=h.ln;have s:=ov_sz i f g vB (show 90+90+10<=410 by decide) (show 20+20<=410 by decide);exact⟨yns vB vB (λq e=>⟨(h.zl q e).1.mono vA,(h.zl q e).2.mono vA⟩) s,s l.length (Zl _)⟩
end
open Sf
def bD(a:PySem.Addr)(p:Int)(h:H3)(x:Rat)(d:D):D:=.obj a [.int p,hD h,fr x,d]
section
variable{Γ:Nat->∅}
def zci:∅:=run (tab []) zfp 2
def ok_trio_at:∀d w,d.length=2->zci d=some w->run Γ zfp 2 d=some w:=λd w _ h=>zbv [] (λp e=>by cases e) vA d w h
def ybt{L:List D}{k:Int}{x y z:D}(d:L.length≠0)(e:L2.atI L (k-1)=some x)(f:L2.atI L k=some y)(g:L2.atI L ((k+1).fmod L.length)=some z):zci [.lst L,.int k]=some (.val (.tup [x,y,z])):=by
 unfold zci zfp;generalize tab []=Γ;have h:((L.length:Nat):Int)≠0:=by omega
 walk_at "evh"
def zaj:∅:=run (tab [(81,zby)]) zcl 4
def ok_weights_of(e:Γ 81=zby):∀d w,d.length=1->zaj d=some w->run Γ zcl 4 d=some w:=λd w _ h=>zbv [(81,zby)] (λp f=>by simp only[Zh,Zr,or_false] at f;subst f;exact e) vA d w h
def zen{a0 a1 a2:PySem.Addr}{p0 p1 p2:Int}{d e f:H3}{x0 x1 x2:Rat}{c0 c1 c2:D}(h:HB 3000 d)(i:HB 3000 e)(j:HB 3000 f):
  zaj [.tup [bD a0 p0 d x0 c0,bD a1 p1 e x1 c1,bD a2 p2 f x2 c2]]=some (.new [.int (crI e f),.int (crI f d),.int (crI d e)]):=by
 unfold zaj zcl bD;generalize g:tab [(81,zby)]=Γ;have l:Γ 81=zby:=by rw[<-g];rfl
 have m:=zdt i j;have n:=zdt j h;have o:=zdt h i;have p:lf (hD d)=true:=rfl;have l1:lf (hD e)=true:=rfl;have l2:lf (hD f)=true:=rfl;clear g h i j;walk_at "evh"
def ziy:∅:=run (tab [(92,zci),(93,zaj)]) zee 2
def ok_ends_all(f:Γ 92=zci)(g:Γ 93=zaj):∀d w,d.length=2->ziy d=some w->run Γ zee 2 d=some w:=λd w _ h=>zbv [(92,zci),(93,zaj)] (λp e=>by
 simp only[Zh,Zr,or_false] at e;rcases e with rfl|rfl<;>assumption) vA d w h
def yff{L:List D}{k:Int}{T:D}{u v w:Int}(g:zci [.lst L,.int k]=some (.val T))(h:zaj [T]=some (.new [.int u,.int v,.int w])):ziy [.lst L,.int k]=some (.val (.bl (decide (0<=v)))):=by
 unfold ziy zee;generalize d:tab [(92,zci),(93,zaj)]=Γ;have e:Γ 92=zci:=by rw[<-d];rfl
 have f:Γ 93=zaj:=by rw[<-d];rfl
 clear d;walk_at "evh"
end
open Sf
section
variable{Γ:Nat->∅}
def zgw:∅:=run (tab [(10,B8),(11,By)]) zfr 2
def ok_edge_by(f:Γ 10=B8)(g:Γ 11=By):∀d w,d.length=2->zgw d=some w->run Γ zfr 2 d=some w:=λd w _ h=>zbv [(10,B8),(11,By)] (λp e=>by
 simp only[Zh,Zr,or_false] at e;rcases e with rfl|rfl<;>assumption) vA d w h
def zho{a:PySem.Addr}{p:Int}{h:H3}{x t:Rat}{cl:D}{m n q:Nat}(sc:Sz m (h.2.2:Rat))(e:Sz n t)(f:Sz q x)(i:m<=4400)(j:n<=4400)(l:q<=4400)(g:Sz 4400 (t*x)):
  zgw [bD a p h x cl,fr t]=some (.val (fr ((h.2.2:Rat)-t*x))):=by
 have s:By [fr t,fr x]=some (.val (fr (t*x))):=Bx (Bt e f j l);have u:B8 [.tup [.int h.2.2,.int 1],fr (t*x)]=some (.val (fr ((h.2.2:Rat)-t*x))):=Bx (x:=(h.2.2:Rat)) (Bt sc g i vA);unfold zgw zfr bD;generalize d:tab [(10,B8),(11,By)]=Γ;have o:Γ 10=B8:=by rw[<-d];rfl
 have r:Γ 11=By:=by rw[<-d];rfl
 have v:hD h=.tup [.int h.1,.int h.2.1,.int h.2.2]:=rfl;generalize fr (t*x)=X at *;generalize fr ((h.2.2:Rat)-t*x)=Y at *;generalize fr t=Z at *;generalize fr x=w at *;clear d sc e f g;walk_at "evh"
def zbh:∅:=run (tab [(10,B8),(11,By),(20,zfg),(81,zby),(99,zgw)]) zdw 8
def ok_meeting(f:Γ 10=B8)(g:Γ 11=By)(i:Γ 20=zfg)(j:Γ 81=zby)(l:Γ 99=zgw):∀d w,d.length=3->zbh d=some w->run Γ zdw 8 d=some w:=λd w _ h=>zbv [(10,B8),(11,By),(20,zfg),(81,zby),(99,zgw)] (λp e=>by
 simp only[Zh,Zr,or_false] at e;rcases e with rfl|rfl|rfl|rfl|rfl<;>assumption) vA d w h
def ziv{h10:Γ 10=B8}{h11:Γ 11=By}{h20:Γ 20=zfg}{h81:Γ 81=zby}{h99:Γ 99=zgw}{a g:PySem.Addr}{p i:Int}{h d:H3}{x f:Rat}{j e T E1 E2 l m n o X Y q s:D}{r:Int}
 (l1:lf E1=true)(l2:lf E2=true)(v:lf X=true)(w:lf Y=true)
 (z:zgw [bD a p h x j,T]=some (.val E1))(A:zgw [bD g i d f e,T]=some (.val E2))(B:zby [hD h,hD d]=some (.val (.int r)))
 (C:By [.tup [.int d.2.1,.int 1],E1]=some (.val l))(E:By [.tup [.int h.2.1,.int 1],E2]=some (.val m))(F:B8 [l,m]=some (.val X))
 (G:By [.tup [.int h.1,.int 1],E2]=some (.val n))(H:By [.tup [.int d.1,.int 1],E1]=some (.val o))(I:B8 [n,o]=some (.val Y))
 (t:zfg [X,.tup [.int r,.int 1]]=some (.val q))(u:zfg [Y,.tup [.int r,.int 1]]=some (.val s)):
  run Γ zdw 8 [bD a p h x j,bD g i d f e,T]=some (.val (.tup [q,s])):=by
 unfold bD hD at *;unfold zdw;generalize fr x=Z at *;generalize fr f=J at *;walk_at "evh"
def zqe{a a':PySem.Addr}{p p':Int}{h d:H3}{x i t:Rat}{cl cl':D}(j:HB 900 h)(f:HB 900 d)(o:Sz 900 t)(B:Sz 400 x)(n:Sz 400 i)(F:crI h d≠0)(l:Sz 1100 ((h.2.2:Rat)-t*x))(m:Sz 1100 ((d.2.2:Rat)-t*i)):
  zbh [bD a p h x cl,bD a' p' d i cl',fr t]=some (.val (stD ((((d.2.1:Rat)*((h.2.2:Rat)-t*x)-(h.2.1:Rat)*((d.2.2:Rat)-t*i))/(crI h d:Rat)),((h.1:Rat)*((d.2.2:Rat)-t*i)-(d.1:Rat)*((h.2.2:Rat)-t*x))/(crI h d:Rat)))):=by
 have G:=zaz (a:=h.2.2) j.c vA;have H:=zaz (a:=d.2.2) f.c vA;have q:=zaz (a:=h.1) j.a vA;have s:=zaz (a:=d.1) f.a vA;have u:=zaz (a:=h.2.1) j.b vA;have v:=zaz (a:=d.2.1) f.b vA;have I:=zho (a:=a) (p:=p) (cl:=cl) G o B vA vA vA ((o.mul B).mono vA);have J:=zho (a:=a') (p:=p') (cl:=cl') H o n vA vA vA ((o.mul n).mono vA);have K:HB 3000 h:=⟨Ze j.a (Bn vA),Ze j.b (Bn vA),Ze j.c (Bn vA)⟩;have L:HB 3000 d:=⟨Ze f.a (Bn vA),Ze f.b (Bn vA),Ze f.c (Bn vA)⟩;have C:Sz 3601 ((crI h d:Int):Rat):=by
  have e:((crI h d:Int):Rat)=(h.1:Rat)*(d.2.1:Rat)-(h.2.1:Rat)*(d.1:Rat):=by
   unfold crI;rw[Ww,Z4,Z4]
  rw[e];exact((q.mul v).sub (u.mul s)).mono vA
 have E:((crI h d:Int):Rat)≠0:=λz=>F (Y9.mp z)
 unfold zbh;generalize g:tab [(10,B8),(11,By),(20,zfg),(81,zby),(99,zgw)]=Γ;generalize M:(h.2.2:Rat)-t*x=w at *;generalize N:(d.2.2:Rat)-t*i=A at *;refine ziv (h10:=by rw[<-g];rfl) (h11:=by rw[<-g];rfl) (h20:=by rw[<-g];rfl) (h81:=by rw[<-g];rfl) (h99:=by rw[<-g];rfl) (E1:=fr w) (E2:=fr A) (r:=crI h d) rfl rfl (X:=fr ((d.2.1:Rat)*w-(h.2.1:Rat)*A)) (Y:=fr ((h.1:Rat)*A-(d.1:Rat)*w)) rfl rfl I J (zdt K L)
  (Bx (x:=(d.2.1:Rat)) (Bt v l vA vA)) (Bx (x:=(h.2.1:Rat)) (Bt u m vA vA)) (Bx (Bt (v.mul l) (u.mul m) vA vA))
  (Bx (x:=(h.1:Rat)) (Bt q m vA vA)) (Bx (x:=(d.1:Rat)) (Bt s l vA vA)) (Bx (Bt (q.mul m) (s.mul l) vA vA))
  (Bx (y:=((crI h d:Int):Rat)) ?_) (Bx (y:=((crI h d:Int):Rat)) ?_)
 ·rw[Bt ((v.mul l).sub (u.mul m)) C vA vA,decide_eq_true E];rfl
 ·rw[Bt ((q.mul m).sub (s.mul l)) C vA vA,decide_eq_true E];rfl
def zbb:∅:=run (tab []) zgg 2
def ok_belowR:∀d w,d.length=2->zbb d=some w->run Γ zgg 2 d=some w:=λd w _ h=>zbv [] (λp e=>by cases e) vA d w h
def zkq{a b c d:Int}(e:Bw a d=true)(f:Bw c b=true):zbb [.tup [.int a,.int b],.tup [.int c,.int d]]=some (.val (.bl (decide (a*d<c*b)))):=by
 unfold zbb zgg;generalize tab []=Γ;walk_at "evh"
end
open Sf
section
variable{Γ:Nat->∅}
def clD:Option (Int×Int)->D
 |none=>.non
 |some p=>.tup [.int p.1,.int p.2]
def fD:Option Nat->D
 |none=>.non
 |some j=>.int (j:Int)
def Best(d:Nat->Option (Int×Int))(k:Nat)(f:Option Nat):Prop:=match f with
 |none=>∀i,i<k->d i=none
 |some j=>j<k/\∃p,d j=some p/\∀i q,i<k->d i=some q->p.1*q.2<=q.1*p.2
def zau:∅:=run (tab [(21,zbb)]) zef 4
def ok_earliest(e:Γ 21=zbb):∀d w,d.length=1->zau d=some w->run Γ zef 4 d=some w:=λd w _ h=>zbv [(21,zbb)] (λp f=>by
 simp only[Zh,Zr,or_false] at f;subst f;exact e) vA d w h
abbrev zmo:Ss:=#v[.asg 3 (.fld (.ix (.var 0) (.var 2)) 3),.iff (.and (.cmp .notN (.var 3) .non) (.or (.cmp .isN (.var 1) .non) (.call 21 #v[.var 3,.fld (.ix (.var 0) (.var 1)) 3]))) #v[.asg 1 (.var 2)] .nil]
def yfg{L:List D}{j:Nat}{a:PySem.Addr}{p:Int}{s l f:D}{d:Option B}(e:lf f=true)(h:L2.atI L (j:Int)=some (.obj a [.int p,s,l,.non])):
  exs Γ zmo [~~~.lst L,~~~f,~~~.int (j:Int),d]=some (.nx [~~~.lst L,~~~f,~~~.int (j:Int),~~~.non]):=by
 walk_at "evh"
def zzp{L:List D}{j:Nat}{a:PySem.Addr}{p t b:Int}{s l:D}{d:Option B}(h:L2.atI L (j:Int)=some (.obj a [.int p,s,l,.tup [.int t,.int b]])):
  exs Γ zmo [~~~.lst L,~~~.non,~~~.int (j:Int),d]=some (.nx [~~~.lst L,~~~.int (j:Int),~~~.int (j:Int),~~~.tup [.int t,.int b]]):=by
 walk_at "evh"
def yfh(f:Γ 21=zbb){L:List D}{j i:Nat}{a g:PySem.Addr}{p m t b d e:Int}{s l n o:D}{u:Option B}{r:Bool}(h:L2.atI L (j:Int)=some (.obj a [.int p,s,l,.tup [.int t,.int b]]))(v:L2.atI L (i:Int)=some (.obj g [.int m,n,o,.tup [.int d,.int e]]))
 (q:zbb [.tup [.int t,.int b],.tup [.int d,.int e]]=some (.val (.bl r))):
  exs Γ zmo [~~~.lst L,~~~.int (i:Int),~~~.int (j:Int),u]=some (.nx [~~~.lst L,~~~(.int (if r=true then(j:Int) else(i:Int))),~~~.int (j:Int),~~~.tup [.int t,.int b]]):=by
 cases r
 ·walk_at "evh"
 ·walk_at "evh"
def yav{f:Nat->Option (Int×Int)}{k i:Nat}{p q:Int×Int}(l:∀i q,f i=some q->0<q.2)(h:Best f k (some i))(n:f i=some p)(g:f k=some q):Best f (k+1) (some (if q.1*p.2<p.1*q.2 then k else i)):=by
 obtain⟨o,A,e,m⟩:=h
 rw[n] at e;cases e;have s:=l _ _ n;have t:=l _ _ g;by_cases z:q.1*p.2<p.1*q.2
 ·rw[if_pos z];refine⟨Wz _,q,g,λj r u d=>?_⟩
  rcases Yd j k with c|c
  ·have a:=m j r c d;have v:=l _ _ d;have B:q.1*p.2*r.2<=p.1*q.2*r.2:=Qs (Qf z) (Qf v);have C:p.1*r.2*q.2<=r.1*p.2*q.2:=Qs a (Qf t);have w:(q.1*r.2)*p.2<=(r.1*q.2)*p.2:=by grind
   exact Int.le_of_mul_le_mul_right w s
  ·have:j=k:=by omega
   subst this;rw[g] at d;cases d;exact Gw _
 ·rw[if_neg z];refine⟨by omega,p,n,λj r u d=>?_⟩
  rcases Yd j k with c|c
  ·exact m j r c d
  ·have:j=k:=by omega
   subst this;rw[g] at d;cases d;omega
end
open Sf
section
variable{Γ:Nat->∅}
def zcv{g:D->RhoS->Option RhoS}{h:RhoS->Option Out}{d:D}{l:List D}{i e f:RhoS}(j:g d i=some e)(m:h e=some (.nx f)):forN g h (d::l) i=forN g h l f:=by
 conv=>lhs;unfold forN
 rw[j];simp only;rw[m]
abbrev yij:Ss:=#v[.asg 1 (.bin .mul (.var 1) (.ix (.fld (.var 2) 2) (.int 1)))]
abbrev yii:Ss:=#v[.asg 3 (.bin .sub (.var 3) (.bin .mul (.bin .mul (.var 5) (.ix (.fld (.var 2) 1) (.int 2))) (.var 1))),.asg 4 (.bin .sub (.var 4) (.bin .mul (.bin .mul (.var 5) (.ix (.fld (.var 2) 2) (.int 0))) (.bin .fdiv (.var 1) (.ix (.fld (.var 2) 2) (.int 1)))))]
def zqu{a:PySem.Addr}{T p s e:D}{c n d:Int}{f g i j:Option B}(h:Bw c d=true):
  exs Γ yij [~~~T,~~~.int c,~~~.obj a [p,s,.tup [.int n,.int d],e],f,g,i,j]=some (.nx [~~~T,~~~.int (c*d),~~~.obj a [p,s,.tup [.int n,.int d],e],f,g,i,j]):=by
 walk_at "evh"
def zqt{a:PySem.Addr}{T p g:D}{c n d t b w h i f e:Int}{j:Option B}(l:Bw w f=true)(m:Bw (w*f) c=true)(o:Bw w n=true)(q:zbt d=true)(r:Bw (w*n) e=true)(s:c.fdiv d=e):
  exs Γ yii [~~~T,~~~.int c,~~~.obj a [p,.tup [.int h,.int i,.int f],.tup [.int n,.int d],g],~~~.int t,~~~.int b,~~~.int w,j] =
   some (.nx [~~~T,~~~.int c,~~~.obj a [p,.tup [.int h,.int i,.int f],.tup [.int n,.int d],g],~~~.int (t-w*f*c),~~~.int (b-w*n*e),~~~.int w,j]):=by
 walk_at "evh"
def o4(a:PySem.Addr)(p:D)(e f g n d:Int)(h:D):D:=.obj a [p,.tup [.int e,.int f,.int g],.tup [.int n,.int d],h]
def yjw{a0 a1 a2:PySem.Addr}{p0 p1 p2 cl0 cl1 cl2:D}{s0 t0 u0 s1 t1 u1 s2 t2 u2 n0 n1 n2 d0 d1 d2 w0 w1 w2 c e0 e1 e2:Int}
 (j:Γ 93 [.tup [o4 a0 p0 s0 t0 u0 n0 d0 cl0,o4 a1 p1 s1 t1 u1 n1 d1 cl1,o4 a2 p2 s2 t2 u2 n2 d2 cl2]]=some (.new [.int w0,.int w1,.int w2]))
 (l:Bw 1 d0=true)(m:Bw (1*d0) d1=true)(n:Bw (1*d0*d1) d2=true)(o:1*d0*d1*d2=c)
 (p:Bw w0 u0=true)(q:Bw (w0*u0) c=true)(r:Bw w0 n0=true)(s:zbt d0=true)(t:Bw (w0*n0) e0=true)(u:c.fdiv d0=e0)
 (v:Bw w1 u1=true)(w:Bw (w1*u1) c=true)(z:Bw w1 n1=true)(A:zbt d1=true)(B:Bw (w1*n1) e1=true)(C:c.fdiv d1=e1)
 (E:Bw w2 u2=true)(F:Bw (w2*u2) c=true)(G:Bw w2 n2=true)(H:zbt d2=true)(I:Bw (w2*n2) e2=true)(J:c.fdiv d2=e2):
  exs Γ o_set_closing.1 [~~~.tup [o4 a0 p0 s0 t0 u0 n0 d0 cl0,o4 a1 p1 s1 t1 u1 n1 d1 cl1,o4 a2 p2 s2 t2 u2 n2 d2 cl2],none,none,none,none,none,none] =
   some (.nx [~~~.tup [o4 a0 p0 s0 t0 u0 n0 d0 cl0,o4 a1 p1 s1 t1 u1 n1 d1 cl1,o4 a2 p2 s2 t2 u2 n2 d2 cl2],~~~.int c,~~~o4 a2 p2 s2 t2 u2 n2 d2 cl2,~~~.int (0-w0*u0*c-w1*u1*c-w2*u2*c),
    ~~~.int (0-w0*n0*e0-w1*n1*e1-w2*n2*e2),~~~.int w2,~~~o4 a1 p1 s1 t1 u1 n1 d1 cl1]):=by
 have O:∃x,o4 a0 p0 s0 t0 u0 n0 d0 cl0=x/\x=o4 a0 p0 s0 t0 u0 n0 d0 cl0:=⟨_,rfl,rfl⟩;obtain⟨f,K,h⟩:=O
 have P:∃x,o4 a1 p1 s1 t1 u1 n1 d1 cl1=x/\x=o4 a1 p1 s1 t1 u1 n1 d1 cl1:=⟨_,rfl,rfl⟩;obtain⟨e,L,g⟩:=P
 have Q:∃x,o4 a2 p2 s2 t2 u2 n2 d2 cl2=x/\x=o4 a2 p2 s2 t2 u2 n2 d2 cl2:=⟨_,rfl,rfl⟩;obtain⟨d,M,i⟩:=Q
 rw[K,L,M] at j |-;have T:forN (zai (.name 2)) (exs Γ yij) [f,e,d] [~~~.tup [f,e,d],~~~.int 1,none,none,none,none,none]=some (.nx [~~~.tup [f,e,d],~~~.int c,~~~d,none,none,none,none]):=by
  rw[h,g,i,<-o];rw[zcv rfl (zqu l),zcv rfl (zqu m),zcv rfl (zqu n)];rfl
 have R:forN (zai (.tup [5,2])) (exs Γ yii) [.tup [.int w0,f],.tup [.int w1,e],.tup [.int w2,d]] [~~~.tup [f,e,d],~~~.int c,~~~d,~~~.int 0,~~~.int 0,none,none] =
   some (.nx [~~~.tup [f,e,d],~~~.int c,~~~d,~~~.int (0-w0*u0*c-w1*u1*c-w2*u2*c),~~~.int (0-w0*n0*e0-w1*n1*e1-w2*n2*e2),~~~.int w2,none]):=by
  rw[h,g,i];rw[zcv rfl (zqt p q r s t u),zcv rfl (zqt v w z A B C),zcv rfl (zqt E F G H I J)];rfl
 have U:zipD [.int w0,.int w1,.int w2] [f,e,d]=[.tup [.int w0,f],.tup [.int w1,e],.tup [.int w2,d]]:=rfl;have V:lf e=false:=by rw[g];rfl
 have W:frz [~~~.tup [f,e,d],~~~.int c,~~~d,~~~.int 0,~~~.int 0,none,none]=[~~~.tup [f,e,d],~~~.int c,~~~d,~~~.int 0,~~~.int 0,none,none]:=rfl;unfold o_set_closing;dsimp only;generalize (0-w0*u0*c-w1*u1*c-w2*u2*c)=TT at *;generalize (0-w0*n0*e0-w1*n1*e1-w2*n2*e2)=N at *;have S:frz [~~~.tup [f,e,d],~~~.int c,~~~d,~~~.int TT,~~~.int N,~~~.int w2,none]=[~~~.tup [f,e,d],~~~.int c,~~~d,~~~.int TT,~~~.int N,~~~.int w2,none]:=rfl;clear K h L g M i l m n o p q r s t u v w z A B C E F G H I J;walk_at "evh"
def yjv{f g i j l:Option B}{t b:Int}:ev Γ o_set_closing.2.1 (view [f,g,i,~~~.int t,~~~.int b,j,l])=some (.val (clD (if 0<b then some (t,b) else none))):=by
 unfold o_set_closing;dsimp only;by_cases h:0<b
 ·have e:decide (0<b)=true:=decide_eq_true h;have d:clD (if 0<b then some (t,b) else none)=.tup [.int t,.int b]:=by rw[if_pos h];rfl
  rw[d];walk_at "evh"
 ·have e:decide (0<b)=false:=decide_eq_false h;have d:clD (if 0<b then some (t,b) else none)=.non:=by rw[if_neg h];rfl
  rw[d];walk_at "evh"
end
open Sf
section
variable{Γ:Nat->∅}
abbrev ztg:Ss:=#v[.asg 2 (.call 0 #v[.var 2,.var 3])]
def zpp{T:D}{L:List D}{g w r:Int}{d:Option B}(h:Γ 0 [.int g,.int w]=some (.val (.int r))):
  exs Γ ztg [~~~T,some (.ow L),~~~.int g,~~~.int w,d]=some (.nx [~~~T,some (.ow L),~~~.int r,~~~.int w,d]):=by
 walk_at "evh"
def zlc{T:D}{L:List D}{g w r:Int}{d:Option B}(h:Γ 0 [.int g,.int w]=some (.val (.int r))):
  exs Γ ztg [~~~T,~~~.lst L,~~~.int g,~~~.int w,d]=some (.nx [~~~T,~~~.lst L,~~~.int r,~~~.int w,d]):=by
 walk_at "evh"
def zgb:∅:=run (tab [(0,zaa),(93,zaj)]) zch 5
def ok_shares_of(g:Γ 0=zaa)(f:Γ 93=zaj):∀d w,d.length=1->zgb d=some w->run Γ zch 5 d=some w:=λd w _ h=>zbv [(0,zaa),(93,zaj)] (λp e=>by
 simp only[Zh,Zr,or_false] at e;rcases e with rfl|rfl<;>assumption) vA d w h
def zud{h i j:D}{e f d l m g:Int}{R S:List D}(q:Γ 93 [.tup [h,i,j]]=some (.new [.int e,.int f,.int d]))(n:Γ 0 [.int 0,.int e]=some (.val (.int l)))(o:Γ 0 [.int l,.int f]=some (.val (.int m)))(p:Γ 0 [.int m,.int d]=some (.val (.int g)))
 (s:∀x y,ev Γ (.comp (.tup #v[.fld (.var 1) 0,.bin .fdiv (.var 2) (.var 3)]) (.tup [1,2]) (.zip (.var 0) (.var 1)) 3 [2] (.som (.cmp .ne (.var 2) (.int 0)))) [some (.tup [h,i,j]),some (.lst [.int e,.int f,.int d]),some (.int g),x,y]=some (.new R))(t:lfL R=true)(u:srtW [.lst R]=some (.new S)):
  run Γ zch 5 [.tup [h,i,j]]=some (.new S):=by
 have v:forN (zai (.name 3)) (exs Γ ztg) [.int e,.int f,.int d] [~~~.tup [h,i,j],some (.ow [.int e,.int f,.int d]),~~~.int 0,none,none]=some (.nx [~~~.tup [h,i,j],some (.ow [.int e,.int f,.int d]),~~~.int g,~~~.int d,none]):=by
  rw[zcv rfl (zpp n),zcv rfl (zpp o),zcv rfl (zpp p)];rfl
 have r:forN (zai (.name 3)) (exs Γ ztg) [.int e,.int f,.int d] [~~~.tup [h,i,j],~~~.lst [.int e,.int f,.int d],~~~.int 0,none,none]=some (.nx [~~~.tup [h,i,j],~~~.lst [.int e,.int f,.int d],~~~.int g,~~~.int d,none]):=by
  rw[zcv rfl (zlc n),zcv rfl (zlc o),zcv rfl (zlc p)];rfl
 unfold zch;have w:frz [~~~.tup [h,i,j],some (.ow [.int e,.int f,.int d]),~~~.int 0,none,none]=[~~~.tup [h,i,j],~~~.lst [.int e,.int f,.int d],~~~.int 0,none,none]:=rfl;walk_at "evh"
def pr1(p w g:Int):List D:=if w=0 then [] else [.tup [.int p,.int (w.fdiv g)]]
def zld{a:PySem.Addr}{p w g:Int}{s l d T L:D}{x y:Option D}(f:zbt g=true):
  zne Γ (.tup #v[.fld (.var 1) 0,.bin .fdiv (.var 2) (.var 3)]) (.tup [1,2]) 3 [2] (.som (.cmp .ne (.var 2) (.int 0))) [some T,some L,some (.int g),x,y] (.tup [.obj a [.int p,s,l,d],.int w])=some (if w=0 then none else some (.tup [.int p,.int (w.fdiv g)])):=by
 by_cases h:w=0
 ·have e:decide (w=0)=true:=decide_eq_true h;rw[if_pos h];walk_at "evh"
 ·have e:decide (w=0)=false:=decide_eq_false h;rw[if_neg h];walk_at "evh"
def zmi{f:D->Option (Option D)}{d:D}{l r:List D}{p w g:Int}(h:f d=some (if w=0 then none else some (.tup [.int p,.int (w.fdiv g)])))(e:zca f l=some r):zca f (d::l)=some (pr1 p w g++r):=by
 unfold pr1;by_cases z:w=0
 ·rw[if_pos z] at h;conv=>lhs;unfold zca
  rw[h,if_pos z];exact e
 ·rw[if_neg z] at h;conv=>lhs;unfold zca
  rw[h,if_neg z];simp only
  rw[e];rfl
def yjt{m n o:PySem.Addr}{d f h i j l g:Int}{p q r s l1 t u l2 v:D}(w:zbt g=true)(x y:Option D):
  ev Γ (.comp (.tup #v[.fld (.var 1) 0,.bin .fdiv (.var 2) (.var 3)]) (.tup [1,2]) (.zip (.var 0) (.var 1)) 3 [2] (.som (.cmp .ne (.var 2) (.int 0))))
   [some (.tup [.obj m [.int d,p,q,r],.obj n [.int f,s,l1,t],.obj o [.int h,u,l2,v]]),some (.lst [.int i,.int j,.int l]),some (.int g),x,y]=some (.new (pr1 d i g++(pr1 f j g++(pr1 h l g++[])))):=by
 rw[zje];have e:evW Γ (.zip (.var 0) (.var 1)) [some (.tup [.obj m [.int d,p,q,r],.obj n [.int f,s,l1,t],.obj o [.int h,u,l2,v]]),some (.lst [.int i,.int j,.int l]),some (.int g),x,y] =
   some [.tup [.obj m [.int d,p,q,r],.int i],.tup [.obj n [.int f,s,l1,t],.int j],.tup [.obj o [.int h,u,l2,v],.int l]]:=by
  have z:zipD [.obj m [.int d,p,q,r],.obj n [.int f,s,l1,t],.obj o [.int h,u,l2,v]] [.int i,.int j,.int l]=[.tup [.obj m [.int d,p,q,r],.int i],.tup [.obj n [.int f,s,l1,t],.int j],.tup [.obj o [.int h,u,l2,v],.int l]]:=rfl;walk_at "evh"
 rw[e,Z9,if_pos ⟨by rw[Q2];simp only[Zv,Ko];decide,by rfl⟩];rw[zmi (zld w) (zmi (zld w) (zmi (zld w) rfl))];rfl
def kk1(p w g:Int):List (List Int):=if w=0 then [] else [[p,w.fdiv g]]
def shK(d e f h i j g:Int):List (List Int):=kk1 d h g++(kk1 e i g++(kk1 f j g++[]))
def zqg{p w g:Int}{l:List D}{d:List (List Int)}(h:zlv l=some d):zlv (pr1 p w g++l)=some (kk1 p w g++d):=by
 unfold pr1 kk1;by_cases z:w=0
 ·rw[if_pos z,if_pos z];exact h
 ·rw[if_neg z,if_neg z];show((keyD (.tup [.int p,.int (w.fdiv g)])).bind λk=>(zlv l).map λd=>k::d)=_;rw[h];rfl
def ymi{p w g:Int}{l:List D}(h:lfL l=true):lfL (pr1 p w g++l)=true:=by
 unfold pr1;by_cases z:w=0
 ·rw[if_pos z];exact h
 ·rw[if_neg z];show(lf (.tup [.int p,.int (w.fdiv g)]) && lfL l)=true;rw[h];rfl
def shK_nd{d e f w0 w1 w2 g:Int}(h:d≠e)(i:d≠f)(j:e≠f):(shK d e f w0 w1 w2 g).Nodup/\(shK d e f w0 w1 w2 g).length<=3:=by
 unfold shK kk1;by_cases l:w0=0<;>by_cases m:w1=0<;>by_cases n:w2=0<;>simp[l,m,n,h,i,j]
def zue{a0 a1 a2:PySem.Addr}{h i j:Int}{d e f:H3}{x0 x1 x2:Rat}{c0 c1 c2:D}(s:HB 3000 d)(t:HB 3000 e)(u:HB 3000 f)(m:h≠i)(n:h≠j)(o:i≠j)
 (v:zbt (gc (gc (gc 0 (crI e f)) (crI f d)) (crI d e))=true):
  zgb [.tup [bD a0 h d x0 c0,bD a1 i e x1 c1,bD a2 j f x2 c2]]=some (.new ((ssK (shK h i j (crI e f) (crI f d) (crI d e) (gc (gc (gc 0 (crI e f)) (crI f d)) (crI d e)))).map dK)):=by
 unfold zgb;generalize l:tab [(0,zaa),(93,zaj)]=Γ;have p:Γ 0=zaa:=by rw[<-l];rfl
 have q:Γ 93=zaj:=by rw[<-l];rfl
 have w:=zen (a0:=a0) (a1:=a1) (a2:=a2) (p0:=h) (p1:=i) (p2:=j) (x0:=x0) (x1:=x1) (x2:=x2) (c0:=c0) (c1:=c1) (c2:=c2) s t u;refine zud (by rw[q];exact w) (by rw[p];exact zbp) (by rw[p];exact zbp) (by rw[p];exact zbp) (λx y=>yjt v x y) (ymi (ymi (ymi rfl))) ?_;obtain⟨z,A⟩:=shK_nd (w0:=crI e f) (w1:=crI f d) (w2:=crI d e) (g:=gc (gc (gc 0 (crI e f)) (crI f d)) (crI d e)) m n o
 generalize (gc (gc (gc 0 (crI e f)) (crI f d)) (crI d e))=g at *;show((zlv (pr1 h (crI e f) g++(pr1 i (crI f d) g++(pr1 j (crI d e) g++[])))).bind λr=>if r.length<=63/\r.Nodup then some (W.new ((ssK r).map dK)) else none)=_;rw[zqg (zqg (zqg rfl)),Z9];exact if_pos ⟨by show(shK _ _ _ _ _ _ _).length<=63;omega,z⟩
end
open Mg Fi
def wy(h:H3):V:=((h.2.1:Rat),-(h.1:Rat))
def zeg{h k:H3}:xr (wy h) (wy k)=((crI h k:Int):Rat):=by
 unfold xr wy crI;rw[Ww,Z4,Z4];grind
def zkc{h:H3}{v:V}:xr (wy h) v=(h.1:Rat)*v.1+(h.2.1:Rat)*v.2:=by unfold xr wy;grind
def top3(d e f:H3)(g h i:Int):Int:=0-crI e f*d.2.2*(1*g*h*i)-crI f d*e.2.2*(1*g*h*i)-crI d e*f.2.2*(1*g*h*i)
def bot3(d e f:H3)(j l m g h i:Int):Int:=0-crI e f*j*(h*i)-crI f d*l*(g*i)-crI d e*m*(g*h)
def clo3(g h i:H3)(d e f:Rat):Option (Int×Int):=
 if 0<bot3 g h i d.num e.num f.num d.den e.den f.den then some (top3 g h i d.den e.den f.den,bot3 g h i d.num e.num f.num d.den e.den f.den) else none
def zoa(x:Rat):((x.num:Int):Rat)=x*((x.den:Int):Rat):=by
 have h:((x.den:Int):Rat)≠0:=λz=>x.den_nz (by
  have:=Y9.mp z
  omega)
 have e:x=(x.num:Rat)/((x.den:Int):Rat):=by
  conv=>lhs;rw[<-Vs x,Rat.mkRat_eq_div]
  rw[Gq]
 have d:x*((x.den:Int):Rat)=(x.num:Rat)/((x.den:Int):Rat)*((x.den:Int):Rat):=by
  conv=>lhs;lhs;rw[e]
 rw[d,G0 h]
def zgj(x:Rat):(0:Rat)<((x.den:Int):Rat):=by
 rw[show(0:Rat)=((0:Int):Rat) from rfl,Z1];exact J1.mpr x.den_pos
def yjf{d e f:H3}{g h i:Int}:((top3 d e f g h i:Int):Rat)=((g:Rat)*h*i)*(- gg (wy d) (wy e) (wy f) (d.2.2:Rat) (e.2.2:Rat) (f.2.2:Rat)):=by
 unfold top3 gg;rw[zeg,zeg,zeg];simp only[Ww,Z4];rw[show((0:Int):Rat)=0 from rfl,show((1:Int):Rat)=1 from rfl];grind
def yap{h0 h1 h2:H3}{x0 x1 x2:Rat}:((bot3 h0 h1 h2 x0.num x1.num x2.num x0.den x1.den x2.den:Int):Rat)=(((x0.den:Int):Rat)*((x1.den:Int):Rat)*((x2.den:Int):Rat))*(- gg (wy h0) (wy h1) (wy h2) x0 x1 x2):=by
 unfold bot3 gg;rw[zeg,zeg,zeg];simp only[Ww,Z4];rw[show((0:Int):Rat)=0 from rfl,zoa x0,zoa x1,zoa x2];grind
def ztd{i j l:H3}{d f g:Rat}(h:0 < - gg (wy i) (wy j) (wy l) d f g):∃p,clo3 i j l d f g=some p:=by
 have e:=yap (h0:=i) (h1:=j) (h2:=l) (x0:=d) (x1:=f) (x2:=g);have c:=Zz (Zz (zgj d) (zgj f)) (zgj g);have:0<bot3 i j l d.num f.num g.num d.den f.den g.den:=by
  rw[<-Z1,e];exact Zz c h
 unfold clo3;rw[if_pos this];exact⟨_,rfl⟩
def zfl{i j l:H3}{d f g:Rat}{p:Int×Int}(h:clo3 i j l d f g=some p):0<p.2/\0 < - gg (wy i) (wy j) (wy l) d f g /\
  (p.1:Rat)*(- gg (wy i) (wy j) (wy l) d f g)=(p.2:Rat)*(- gg (wy i) (wy j) (wy l) (i.2.2:Rat) (j.2.2:Rat) (l.2.2:Rat)):=by
 unfold clo3 at h;split at h
 ·next z=>
  cases h;have e:=yap (h0:=i) (h1:=j) (h2:=l) (x0:=d) (x1:=f) (x2:=g);have c:=Zz (Zz (zgj d) (zgj f)) (zgj g);refine⟨z,?_,?_⟩
  ·have m:(0:Rat)<((bot3 i j l d.num f.num g.num d.den f.den g.den:Int):Rat):=by
    rw[show(0:Rat)=((0:Int):Rat) from rfl,Z1];exact z
   rw[e] at m;generalize ((d.den:Int):Rat)*((f.den:Int):Rat)*((g.den:Int):Rat)=A at *;generalize-gg (wy i) (wy j) (wy l) d f g=B at *
   by_cases q:0<B
   ·exact q
   ·have:=Zp (Zu c) (show 0 <= -B by grind)
    grind
  ·show((top3 i j l d.den f.den g.den:Int):Rat)*_=((bot3 i j l d.num f.num g.num d.den f.den g.den:Int):Rat)*_;rw[e,yjf];grind
 ·cases h
def clJ(h:Nat->H3)(x:Nat->Rat)(n:Nat)(J:Nat->Nat)(i:Nat):Option (Int×Int):=clo3 (h (J (pv n i))) (h (J i)) (h (J (nx n i))) (x (J (pv n i))) (x (J i)) (x (J (nx n i)))
def ear(d:Nat->Option (Int×Int)):Nat->Option Nat
 |0=>none
 |k+1=>match d k with
  |none=>ear d k
  |some q=>match ear d k with
   |none=>some k
   |some i=>match d i with
    |none=>some i
    |some p=>some (if q.1*p.2<p.1*q.2 then k else i)
def yaw{d:Nat->Option (Int×Int)}{k:Nat}{f:Option Nat}(h:Best d k f)(q:d k=none):Best d (k+1) f:=by
 cases f with
 |none=>
  intro i n;rcases Yd i k with c|c
  ·exact h i c
  ·have:i=k:=by omega
   subst this;exact q
 |some i=>
  obtain⟨o,g,l,m⟩:=h
  refine⟨by omega,g,l,λj r p e=>?_⟩
  rcases Yd j k with c|c
  ·exact m j r c e
  ·have:j=k:=by omega
   subst this;rw[q] at e;cases e
def zuz{f:Nat->Option (Int×Int)}{k:Nat}{q:Int×Int}(h:Best f k none)(e:f k=some q):Best f (k+1) (some k):=
 ⟨Wz _,q,e,λi r g d=>by
  rcases Yd i k with c|c
  ·rw[h i c] at d;cases d
  ·have:i=k:=by omega
   subst this;rw[e] at d;cases d;exact Gw _⟩
theorem zmq{d:Nat->Option (Int×Int)}(g:∀i q,d i=some q->0<q.2):∀k,Best d k (ear d k)
 |0=>λi l=>by omega
 |k+1=>by
  have f:=zmq g k;unfold ear;cases e:d k with
  |none=>exact yaw f e
  |some q=>
   simp only
   cases h:ear d k with
   |none=>rw[h] at f;exact zuz f e
   |some i=>
    rw[h] at f;obtain⟨p,j⟩:∃p,d i=some p:=by obtain⟨_,p,z,_⟩:=f;exact⟨p,z⟩
    simp only[j];exact yav g f j e
def fac(p:Int×Int):Rat:=(p.1:Rat)*(p.2:Rat)⁻¹
def zqm{p:Int×Int}(h:0<p.2):fac p*(p.2:Rat)=(p.1:Rat):=by
 have:(p.2:Rat)≠0:=λz=>by
  have:=Y9.mp z
  omega
 unfold fac;rw[Jn,Ux _ (p.2:Rat),Y6 _ this];grind
section
variable{h:Nat->H3}{x:Nat->Rat}{N:Nat}
structure Lst(h:Nat->H3)(x:Nat->Rat)(N:Nat)(n:Nat)(J:Nat->Nat)(t:Rat):Prop where
 ok:Ok (λi=>wy (h (J i))) (λi=>((h (J i)).2.2:Rat)) (λi=>x (J i)) n t
 mono:∀i k,i<k->k<n->J i<J k
 lt:∀i,i<n->J i<N
 span:Span (λi=>wy (h (J i))) n
 off:Off (λi=>wy (h (J i))) (λi=>((h (J i)).2.2:Rat)) n
 back:∀s y,t<=s->(∀i,i<n->((h (J i)).2.2:Rat)-s*x (J i)<=xr (wy (h (J i))) y)->∀j,j<N->((h j).2.2:Rat)-s*x j<=xr (wy (h j)) y
structure Nxt(h:Nat->H3)(x:Nat->Rat)(N n:Nat)(J:Nat->Nat)(t:Rat)(k:Nat)(p:Int×Int):Prop where
 ear:ear (clJ h x n J) n=some k
 lt:k<n
 cl:clJ h x n J k=some p
 pos:0<p.2
 bot:0<tp (λi=>wy (h (J i))) (λi=>x (J i)) n k
 top:fac p*tp (λi=>wy (h (J i))) (λi=>x (J i)) n k=tp (λi=>wy (h (J i))) (λi=>((h (J i)).2.2:Rat)) n k
 le:t<=fac p
 ok:Ok (λi=>wy (h (J i))) (λi=>((h (J i)).2.2:Rat)) (λi=>x (J i)) n (fac p)
 nul:gi (λi=>wy (h (J i))) (λi=>((h (J i)).2.2:Rat)) (λi=>x (J i)) n (fac p) k=0
def Lst.next{n:Nat}{J:Nat->Nat}{t:Rat}(L:Lst h x N n J t){v u:V}(M:v≠u)(O:∀j,j<N->x j<=xr (wy (h j)) v)(P:∀j,j<N->x j<=xr (wy (h j)) u):∃k p,Nxt h x N n J t k p:=by
 obtain⟨w,l,Q⟩:=L.ok.some L.span M (λi d=>O _ (L.lt i d)) (λi d=>P _ (L.lt i d))
 have R:∀i q,clJ h x n J i=some q->0<q.2:=λi q e=>(zfl e).1
 have B:=zmq R n;obtain⟨S,f⟩:=ztd Q
 have f:clJ h x n J w=some S:=f;cases e:ear (clJ h x n J) n with
 |none=>rw[e] at B;rw[B w l] at f;cases f
 |some k=>
  rw[e] at B;obtain⟨z,p,D,mn⟩:=B
  obtain⟨o,E,r⟩:=zfl D
  have F:=zqm o;have T:(0:Rat)<(p.2:Rat):=by rw[show(0:Rat)=((0:Int):Rat) from rfl,Z1];exact o
  have G:fac p*tp (λi=>wy (h (J i))) (λi=>x (J i)) n k=tp (λi=>wy (h (J i))) (λi=>((h (J i)).2.2:Rat)) n k:=by
   have r:(p.1:Rat)*tp (λi=>wy (h (J i))) (λi=>x (J i)) n k=(p.2:Rat)*tp (λi=>wy (h (J i))) (λi=>((h (J i)).2.2:Rat)) n k:=r;generalize tp (λi=>wy (h (J i))) (λi=>x (J i)) n k=A at *;generalize tp (λi=>wy (h (J i))) (λi=>((h (J i)).2.2:Rat)) n k=C at *;rw[<-F] at r;have:(p.2:Rat)*(fac p*A-C)=0:=by grind
   have:=(Kq.mp this).resolve_left (by grind)
   grind
  obtain⟨U,W,X⟩:=L.ok.until z E G (λi d H=>by
   obtain⟨q,g⟩:=ztd H
   have g:clJ h x n J i=some q:=g;have m:=mn i q d g;obtain⟨I,r2,K⟩:=zfl g
   have fq:=zqm I;have Y:(0:Rat)<(q.2:Rat):=by rw[show(0:Rat)=((0:Int):Rat) from rfl,Z1];exact I
   have K:(q.1:Rat)*tp (λi=>wy (h (J i))) (λi=>x (J i)) n i=(q.2:Rat)*tp (λi=>wy (h (J i))) (λi=>((h (J i)).2.2:Rat)) n i:=K;have Z:(p.1:Rat)*(q.2:Rat)<=(q.1:Rat)*(p.2:Rat):=by
    rw[<-Z4,<-Z4,V6];exact m
   have s:0<tp (λi=>wy (h (J i))) (λi=>x (J i)) n i:=H;generalize tp (λi=>wy (h (J i))) (λi=>x (J i)) n i=A at *;generalize tp (λi=>wy (h (J i))) (λi=>((h (J i)).2.2:Rat)) n i=C at *;rw[<-F] at Z;have a1:0<=(q.1:Rat)-fac p*(q.2:Rat):=zar T (by grind);have a2:=Zp a1 (Zu s);have a3:0<=(C-fac p*A)*(q.2:Rat):=by grind
   have:=zar Y a3
   grind)
  exact⟨k,p,e,z,D,o,E,G,U,⟨L.ok.three,L.ok.srt,L.ok.bend,W⟩,X⟩
theorem Nxt.drop{n:Nat}{J:Nat->Nat}{t:Rat}{k:Nat}{p:Int×Int}(X:Nxt h x N n J t k p)(L:Lst h x N n J t)(g:crI (h (J (nx n k))) (h (J (pv n k)))<0):Lst h x N (n-1) (λi=>J (er k i)) (fac p)/\4<=n:=by
 have d:xr (wy (h (J (nx n k)))) (wy (h (J (pv n k))))<0:=by
  rw[zeg,show(0:Rat)=((0:Int):Rat) from rfl,Z1];exact g
 obtain⟨l,m⟩:=L.ok.drop X.lt X.ok.lens X.nul d
 refine⟨⟨l,λi j e o=>L.mono _ _ (zzn e) (zdj X.lt o),λi q=>L.lt _ (zdj X.lt q),L.span.drop L.ok X.lt d,L.off.drop X.lt,λs y f r=>?_⟩,m⟩
 refine L.back s y (Jx X.le f) ?_;exact L.ok.back X.lt X.bot X.top f d r
def finJ(h:Nat->H3)(x:Nat->Rat):Nat->Nat->(Nat->Nat)->Nat×(Nat->Nat)×Nat
 |0,n,J=>(n,J,0)
 |m+1,n,J=>let k:=(ear (clJ h x n J) n).getD 0
  if 0<=crI (h (J (nx n k))) (h (J (pv n k))) then(n,J,k) else finJ h x m (n-1) λi=>J (er k i)
structure FinS(h:Nat->H3)(x:Nat->Rat)(N n:Nat)(J:Nat->Nat)(k:Nat)(p:Int×Int):Prop where
 lt:k<n
 mono:∀i k,i<k->k<n->J i<J k
 le:∀i,i<n->J i<N
 three:3<=n
 cl:clJ h x n J k=some p
 bot:0<p.2
 fac:0<fac p
 keep:∀j,j<N->((h j).2.2:Rat)-DL.fac p*x j<=xr (wy (h j)) (mt (wy (h (J (pv n k)))) (wy (h (J k))) (((h (J (pv n k))).2.2:Rat)-DL.fac p*x (J (pv n k))) (((h (J k)).2.2:Rat)-DL.fac p*x (J k)))
 w0:0<crI (h (J k)) (h (J (nx n k)))
 w1:0<=crI (h (J (nx n k))) (h (J (pv n k)))
 w2:0<crI (h (J (pv n k))) (h (J k))
 sum:((crI (h (J k)) (h (J (nx n k))):Int):Rat)*(((h (J (pv n k))).2.2:Rat)-DL.fac p*x (J (pv n k)))+((crI (h (J (nx n k))) (h (J (pv n k))):Int):Rat)*(((h (J k)).2.2:Rat)-DL.fac p*x (J k))+((crI (h (J (pv n k))) (h (J k)):Int):Rat)*(((h (J (nx n k))).2.2:Rat)-DL.fac p*x (J (nx n k)))=0
def Nxt.finS{n:Nat}{J:Nat->Nat}{t:Rat}{k:Nat}{p:Int×Int}(X:Nxt h x N n J t k p)(L:Lst h x N n J t)(f:0<=crI (h (J (nx n k))) (h (J (pv n k)))):FinS h x N n J k p:=by
 have d:0<=xr (wy (h (J (nx n k)))) (wy (h (J (pv n k)))):=by
  rw[zeg,show(0:Rat)=((0:Int):Rat) from rfl,V6];exact f
 have pos:∀{a b:H3},0<xr (wy a) (wy b)->0<crI a b:=λ{a b} z=>by
  rw[zeg,show(0:Rat)=((0:Int):Rat) from rfl,Z1] at z;exact z
 have j:=L.off.pos X.ok X.lt d;refine⟨X.lt,L.mono,L.lt,L.ok.three,X.cl,X.pos,?_,?_,pos (L.ok.bend k X.lt),f,pos (L.ok.bendp X.lt),?_⟩
 ·have e:=X.top;have b:=X.bot;generalize tp (λi=>wy (h (J i))) (λi=>x (J i)) n k=A at *;generalize tp (λi=>wy (h (J i))) (λi=>((h (J i)).2.2:Rat)) n k=C at *;by_cases z:0<DL.fac p
  ·exact z
  ·have:=Zp (show 0 <= - DL.fac p by grind) (Zu b)
   grind
 ·exact L.back (DL.fac p) _ X.le (λi g=>X.ok.keeps k i X.lt g)
 ·have z:=X.nul;unfold gi gg ee at z;rw[zeg,zeg,zeg] at z;exact z
theorem zzl{v e:V}(f:v≠e)(g:∀j,j<N->x j<=xr (wy (h j)) v)(i:∀j,j<N->x j<=xr (wy (h j)) e):∀(m n:Nat) (J:Nat->Nat) (t:Rat),n<=m->Lst h x N n J t->∃p,FinS h x N (finJ h x m n J).1 (finJ h x m n J).2.1 (finJ h x m n J).2.2 p
 |0,n,J,t,l,L=>by have:=L.ok.three;omega
 |m+1,n,J,t,l,L=>by
  obtain⟨k,p,X⟩:=L.next f g i
  unfold finJ;simp only[X.ear,Q9];by_cases d:0<=crI (h (J (nx n k))) (h (J (pv n k)))
  ·rw[if_pos d];exact⟨p,X.finS L d⟩
  ·rw[if_neg d];obtain⟨L2,o⟩:=X.drop L vB
   exact zzl f g i m (n-1) _ _ vB L2
end
open Mg Fi Sf
def hS(l:List V)(i:Nat):H3:=zeh (rnd l i) (rnd l (i+1))
def zub(l:List V):(zdn l).length=l.length:=by unfold zdn;rw[Zc,zcd]
def zuc{l:List V}{i:Nat}(d:i<l.length):(zdn l)[i]? = some (hS l i):=by
 have e:=congrArg (λz=>z[0]?) (yjp d);simp only[Um,Nat.add_zero,Qr] at e;exact e
def lwS(r:List V)(h:H3):Rat:=0-mx (-h.1) (-h.2.1) (lv (-h.1) (-h.2.1) (r.headD (0,0))) r.tail
def zod{h:H3}{q:V}:lv (-h.1) (-h.2.1) q = - xr (wy h) q:=by
 unfold lv;rw[zkc,Rat.intCast_neg,Rat.intCast_neg];grind
def zcu{r:List V}(f:0<r.length)(h:H3):(∀q∈r,lwS r h<=xr (wy h) q)/\∃q∈r,lwS r h=xr (wy h) q:=by
 cases r with
 |nil=>exact absurd f (Wt 0)
 |cons q r=>
  unfold lwS;simp only[List.headD_cons,List.tail_cons];obtain⟨g,i,j⟩:=mx_ok (-h.1) (-h.2.1) r (lv (-h.1) (-h.2.1) q)
  refine⟨λz d=>?_,?_⟩
  ·rcases Zh.mp d with e|e
   ·rw[e];rw[zod] at g;rw[zod];grind
   ·have:=i z e;rw[zod] at this;grind
  ·rcases j with e|⟨z,d,e⟩
   ·exact⟨q,.head _,by rw[e,zod];grind⟩
   ·exact⟨z,.tail _ d,by rw[e,zod];grind⟩
def zfh{l:List V}(h:IsShp l)(i:Nat):∃k:Rat,0<k/\wy (hS l i)=sm k (ed (rnd l) i)/\(((hS l i).2.2:Int):Rat)=xr (wy (hS l i)) (rnd l i):=by
 have f:=h.three;have j:=zfa (nodup h) vB i;obtain⟨k,m,d,e,g⟩:=(zym (a:=(rnd l i).2-(rnd l (i+1)).2) (b:=(rnd l (i+1)).1-(rnd l i).1) (c:=((rnd l i).2-(rnd l (i+1)).2)*(rnd l i).1+((rnd l (i+1)).1-(rnd l i).1)*(rnd l i).2) (zlq j)).scale
 have d:(((hS l i).1:Int):Rat)=_:=d;have e:(((hS l i).2.1:Int):Rat)=_:=e;have g:(((hS l i).2.2:Int):Rat)=_:=g;refine⟨k,m,?_,?_⟩
 ·unfold wy sm ed mn;rw[d,e];exact Ys (by dsimp only) (by dsimp only;grind)
 ·rw[zkc,d,e,g];grind
def zkj{l:List V}(d:IsShp l):Sds (λi=>wy (hS l i)) (rnd l) (λi=>((hS l i).2.2:Rat)) l.length:=
 ⟨zin d (nodup d),λi _=>by obtain⟨k,f,e,_⟩:=zfh d i;exact⟨k,f,e⟩,λi _=>by obtain⟨k,f,_,e⟩:=zfh d i;exact e⟩
def zkm{l:List V}(d:IsShp l)(x:Nat->Rat):Lst (hS l) x l.length l.length (λi=>i) 0:=
 ⟨(zkj d).ok,λ_ _ h _=>h,λ_ h=>h,(zkj d).span,(zkj d).off,λ_ _ _ h=>h⟩
def ymu{l r:List V}(g:IsShp l)(f:IsShp r):∃p,FinS (hS l) (λi=>lwS r (hS l i)) l.length (finJ (hS l) (λi=>lwS r (hS l i)) l.length l.length λi=>i).1 (finJ (hS l) (λi=>lwS r (hS l i)) l.length l.length λi=>i).2.1 (finJ (hS l) (λi=>lwS r (hS l i)) l.length l.length λi=>i).2.2 p:=by
 have e:=f.three;have d:0<r.length:=by omega
 exact zzl (zfa (nodup f) vB 0) (λj _=>(zcu d _).1 _ (Bz d _)) (λj _=>(zcu d _).1 _ (Bz d _)) _ _ _ _ (Zl _) (zkm g _)
structure Hb(h:H3):Prop where
 a:h.1.natAbs<2^90
 b:h.2.1.natAbs<2^90
 c:h.2.2.natAbs<2^150
def Hb.hb{h:H3}(b:Hb h){n:Nat}(d:150<=n):HB n h:=⟨Ze b.a (Bn vB),Ze b.b (Bn vB),Ze b.c (Bn d)⟩
def ymv{t g:Int}{n:Nat}(f:g∣t)(h:t.natAbs<2^n):(t.fdiv g).natAbs<2^n:=by
 obtain⟨x,d⟩:=f
 rcases G8 (g=0) with z|z
 ·rw[z,Int.fdiv_zero];exact Vg _
 ·rw[d,Z7 _ z];rcases G8 (x=0) with e|e
  ·rw[e];exact Vg _
  ·refine Ye ?_ h;exact zaq ⟨g,by rw[d,Kl]⟩ (by rw[d];exact Yf z e)
def Sy.sub{a b c d k:Nat}{x y:Rat}(e:Sy a b x)(f:Sy c d y)(g:a+d<=k)(h:c+b<=k):Sy (k+1) (b+d) (x-y):=by
 rw[Jf];exact e.add f.neg g h
def syI{i:Int}{n:Nat}(h:i.natAbs<2^n):Sy n 1 (i:Rat):=⟨by rw[Rat.num_intCast];exact h,by rw[Rat.den_intCast];decide⟩
def xr_sy{h:H3}{q:V}(b:Hb h)(d:Sy 80 12 q.1/\Sy 80 12 q.2):Sy 184 26 (xr (wy h) q):=by
 rw[zkc];exact((syI b.a).mul d.1).add ((syI b.b).mul d.2) (k:=183) vA vA
def lwS_sy{r:List V}{h:H3}(d:0<r.length)(b:Hb h)(f:SyL 80 12 r):Sy 184 26 (lwS r h):=by
 obtain⟨_,q,g,e⟩:=zcu d h
 rw[e];exact xr_sy b (f q g)
def zba{h k:H3}(a:Hb h)(b:Hb k):(crI h k).natAbs<2^181:=by
 unfold crI;have d:(h.1*k.2.1).natAbs<2^180:=by rw[Z5];exact zam a.a b.b
 have f:(h.2.1*k.1).natAbs<2^180:=by rw[Z5];exact zam a.b b.a
 have e:(2:Nat)^181=2^180+2^180:=by rw[Jy,Vh]
 rw[e];generalize (2:Nat)^180=M at *;omega
def zky{a b c:Int}{n:Nat}(d:a.natAbs<2^n)(f:b.natAbs<2^n)(g:c.natAbs<2^n):(0-a-b-c).natAbs<2^(n+2):=by
 have e:(2:Nat)^(n+2)=2^n*4:=by rw[Gv]
 rw[e];generalize (2:Nat)^n=M at *;omega
def yag{w z A:H3}{r s u:Rat}{p:Int×Int}(f:Hb w)(g:Hb z)(i:Hb A)(l:Sy 184 26 r)(o:Sy 184 26 s)(q:Sy 184 26 u)(h:clo3 w z A r s u=some p):p.1.natAbs<2^420/\p.2.natAbs<2^420:=by
 unfold clo3 at h;split at h
 ·cases h;have d:∀{a b c:Int}{m n k:Nat},a.natAbs<2^m->b.natAbs<2^n->c.natAbs<2^k->(a*b*c).natAbs<2^(m+n+k):=λB C D=>by
   rw[Z5,Z5];exact zam (zam B C) D
  have j:∀x:Rat,Sy 184 26 x->((x.den:Int)).natAbs<2^26:=λx v=>v.b
  have c:(1*(r.den:Int)*(s.den:Int)*(u.den:Int)).natAbs<2^78:=by
   rw[Jq];exact d (j _ l) (j _ o) (j _ q)
  have e:∀x y:Rat,Sy 184 26 x->Sy 184 26 y->((x.den:Int)*(y.den:Int)).natAbs<2^52:=λx y v E=>by
   rw[Z5];exact zam (j _ v) (j _ E)
  refine⟨Ze (zky (n:=181+150+78) ?_ ?_ ?_) (Bn vA),Ze (zky (n:=181+184+52) ?_ ?_ ?_) (Bn vA)⟩
  ·exact d (zba g i) f.c c
  ·exact d (zba i f) g.c c
  ·exact d (zba f g) i.c c
  ·exact d (zba g i) l.t (e _ _ o q)
  ·exact d (zba i f) o.t (e _ _ l q)
  ·exact d (zba f g) q.t (e _ _ l o)
 ·cases h
def zte{w z A:H3}{r s u:Rat}{p:Int×Int}(f:Hb w)(g:Hb z)(i:Hb A)(l:Sz 2000 r)(o:Sz 2000 s)(q:Sz 2000 u)(h:clo3 w z A r s u=some p):p.1.natAbs<2^6400/\p.2.natAbs<2^6400:=by
 unfold clo3 at h;split at h
 ·cases h;have d:∀{a b c:Int}{m n k:Nat},a.natAbs<2^m->b.natAbs<2^n->c.natAbs<2^k->(a*b*c).natAbs<2^(m+n+k):=λB C D=>by
   rw[Z5,Z5];exact zam (zam B C) D
  have j:∀x:Rat,Sz 2000 x->((x.den:Int)).natAbs<2^2000:=λx v=>v.b
  have c:(1*(r.den:Int)*(s.den:Int)*(u.den:Int)).natAbs<2^(2000+2000+2000):=by
   rw[Jq];exact d (j _ l) (j _ o) (j _ q)
  have e:∀x y:Rat,Sz 2000 x->Sz 2000 y->((x.den:Int)*(y.den:Int)).natAbs<2^(2000+2000):=λx y v E=>by
   rw[Z5];exact zam (j _ v) (j _ E)
  refine⟨Ze (zky (n:=181+150+(2000+2000+2000)) ?_ ?_ ?_) (Bn vA),Ze (zky (n:=181+2000+(2000+2000)) ?_ ?_ ?_) (Bn vA)⟩
  ·exact d (zba g i) f.c c
  ·exact d (zba i f) g.c c
  ·exact d (zba f g) i.c c
  ·exact d (zba g i) l.t (e _ _ o q)
  ·exact d (zba i f) o.t (e _ _ l q)
  ·exact d (zba f g) q.t (e _ _ l o)
 ·cases h
def lwS_sz{r:List V}{h:H3}(g:0<r.length)(b:Hb h)(d:SyL 600 600 r):Sz 2000 (lwS r h):=by
 obtain⟨_,q,f,e⟩:=zcu g h
 rw[e,zkc];exact(((syI b.a).mul (d q f).1).add ((syI b.b).mul (d q f).2) (k:=1291) vA vA).sz vA vA
def yhz{p:Int×Int}:fac p=Rat.divInt p.1 p.2:=by
 unfold fac;rw[Y3,Yz]
def yhx{p:Int×Int}(f:0<p.2)(d:p.1.natAbs<2^420)(e:p.2.natAbs<2^420):Sz 420 (fac p):=by
 rw[yhz];exact(zid vB d e).sz (Zl _) (Zl _)
open Mg Fi Sf
def toL(e:Int×Int):List Int:=[e.1,e.2]
def ofL(k:List Int):Int×Int:=(k.getD 0 0,k.getD 1 0)
def ymg{a b c d:Int}(h:ltK [a,b] [c,d]=true)(e:a≠c):a<c:=by
 unfold ltK at h;simp only[Jw,Zk,decide_eq_true_eq,beq_iff_eq] at h;omega
def zki{L:List (Int×Int)}(p:L.Nodup)(r:∀e∈L,∀i∈L,e.1=i.1->e=i):∃S:List (Int×Int),ssK (L.map toL)=S.map toL/\S.Perm L/\S.Pairwise (λe i=>e.1<i.1):=by
 have s:∀x∈L.map toL,isPr x=true:=λx f=>by
  obtain⟨e,_,q⟩:=Zq.mp f
  rw[<-q];rfl
 have m:=zpo s;have l:∀x,x∈ssK (L.map toL)↔x∈L.map toL:=λx=>ssK_mem
 generalize ssK (L.map toL)=j at *;have g:∀x∈j,toL (ofL x)=x/\ofL x∈L:=λx f=>by
  obtain⟨e,t,q⟩:=Zq.mp ((l x).mp f)
  rw[<-q];exact⟨rfl,t⟩
 have u:j=(j.map ofL).map toL:=by
  rw[Ya];conv=>lhs;rw[<-List.map_id j]
  exact We λx f=>(g x f).1.symm
 have n:(j.map ofL).Pairwise (λe i=>e.1<i.1):=by
  rw[Ql];refine m.imp_of_mem λ{x y} f v d=>?_;obtain⟨w,A⟩:=g x f
  obtain⟨B,C⟩:=g y v
  rw[<-w,<-B] at d;by_cases o:(ofL x).1=(ofL y).1
  ·have:=r _ A _ C o
   rw[this] at d;unfold toL ltK at d;simp at d
  ·exact ymg d o
 refine⟨j.map ofL,u,?_,n⟩
 refine(List.perm_ext_iff_of_nodup (n.imp λ{a b} h z=>?_) p).mpr λe=>?_
 ·rw[z] at h;exact absurd h (Ut _)
 ·constructor
  ·intro h;obtain⟨x,f,q⟩:=Zq.mp h
   rw[<-q];exact(g x f).2
  ·intro h;exact Zq.mpr ⟨toL e,(l _).mpr (Zq.mpr ⟨e,h,rfl⟩),rfl⟩
def zcq{d:Type}{f:d->Int}{l m:List d}(h:l.Perm m):(l.map f).sum=(m.map f).sum:=by
 induction h with
 |nil=>rfl
 |cons _ _ e=>simp only[Zx,Y8,e]
 |swap a b l=>simp only[Zx,Y8];omega
 |trans _ _ a b=>exact a.trans b
def znt{d:Type}{f:d->Rat}{l m:List d}(h:l.Perm m):(l.map f).sum=(m.map f).sum:=by
 induction h with
 |nil=>rfl
 |cons _ _ e=>simp only[Zx,Y8,e]
 |swap a b l=>simp only[Zx,Y8];grind
 |trans _ _ a b=>exact a.trans b
structure Cert(h:Nat->H3)(x:Nat->Rat)(N:Nat)(t:Rat)(S:List (Int×Int)):Prop where
 len:S.length=2\/S.length=3
 ok:∀e∈S,∃j:Nat,e.1=(j:Int)/\j<N/\1<=e.2/\e.2.natAbs<2^181
 srt:S.Pairwise (λe e'=>e.1<e'.1)
 sa:(S.map λe=>e.2*(h e.1.toNat).1).sum=0
 sb:(S.map λe=>e.2*(h e.1.toNat).2.1).sum=0
 sc:(((S.map λe=>e.2*(h e.1.toNat).2.2).sum:Int):Rat)=t*(S.map λe=>(e.2:Rat)*x e.1.toNat).sum
def yai{h:Nat->H3}{x:Nat->Rat}{N n:Nat}{J:Nat->Nat}{k:Nat}{p:Int×Int}(F:FinS h x N n J k p)(u:∀j,Hb (h j)):∃S:List (Int×Int),
  ssK (shK (J (pv n k):Nat) (J k:Nat) (J (nx n k):Nat) (crI (h (J k)) (h (J (nx n k)))) (crI (h (J (nx n k))) (h (J (pv n k)))) (crI (h (J (pv n k))) (h (J k)))
   (gc (gc (gc 0 (crI (h (J k)) (h (J (nx n k))))) (crI (h (J (nx n k))) (h (J (pv n k))))) (crI (h (J (pv n k))) (h (J k)))))=S.map toL/\Cert h x N (fac p) S:=by
 have inj:∀i j,i<n->j<n->i≠j->J i≠J j:=λi j hi hj ne=>by
  rcases Yd i j with z|z
  ·have:=F.mono i j z hj;omega
  ·have:=F.mono j i vB hi;omega
 have B:=F.three;have a0:J (pv n k)≠J k:=inj _ _ (zfw F.lt) F.lt (by unfold pv;have:=F.lt;split<;>omega);have a1:J (pv n k)≠J (nx n k):=inj _ _ (zfw F.lt) (zgv F.lt) (zlk B F.lt);have a2:J k≠J (nx n k):=inj _ _ F.lt (zgv F.lt) (by unfold nx;have:=F.lt;split<;>omega);have X:=F.le _ (zfw F.lt);have l1:=F.le _ F.lt;have l2:=F.le _ (zgv F.lt);have w0:=F.w0;have w1:=F.w1;have w2:=F.w2;have sum:=F.sum;have b0:=zba (u (J k)) (u (J (nx n k)));have b1:=zba (u (J (nx n k))) (u (J (pv n k)));have b2:=zba (u (J (pv n k))) (u (J k));have Y:crI (h (J k)) (h (J (nx n k)))*(h (J (pv n k))).1+crI (h (J (nx n k))) (h (J (pv n k)))*(h (J k)).1+crI (h (J (pv n k))) (h (J k))*(h (J (nx n k))).1=0:=by unfold crI;grind
 have Z:crI (h (J k)) (h (J (nx n k)))*(h (J (pv n k))).2.1+crI (h (J (nx n k))) (h (J (pv n k)))*(h (J k)).2.1+crI (h (J (pv n k))) (h (J k))*(h (J (nx n k))).2.1=0:=by unfold crI;grind
 generalize crI (h (J k)) (h (J (nx n k)))=o at *;generalize crI (h (J (nx n k))) (h (J (pv n k)))=r at *;generalize crI (h (J (pv n k))) (h (J k))=s at *;generalize J (pv n k)=w at *;generalize J k=G at *;generalize J (nx n k)=A at *;have gp:0<gc (gc (gc 0 o) r) s:=zfi vB;have d2:gc (gc (gc 0 o) r) s∣s:=Wh _ _;have H:gc (gc (gc 0 o) r) s∣gc (gc 0 o) r:=Qv _ _;have d1:gc (gc (gc 0 o) r) s∣r:=Wu H (Wh _ _);have d0:gc (gc (gc 0 o) r) s∣o:=Wu H (Wu (Qv _ _) (Wh _ _));generalize gc (gc (gc 0 o) r) s=g at *;have f:∀W:Int,g∣W->W.natAbs<2^181->0<=W->∃v:Int,W.fdiv g=v/\W=g*v/\v.natAbs<2^181/\0<=v:=λW hd u hW=>by
  have hf:=ymv hd u;obtain⟨v,e⟩:=hd
  have C:W.fdiv g=v:=by rw[e];exact Z7 _ vB
  rw[C] at hf;refine⟨v,C,e,hf,?_⟩
  by_cases z:0<=v
  ·exact z
  ·have:=Vu gp (show v<0 by omega)
   omega
 obtain⟨D,f0,P,c0,p0⟩:=f o d0 b0 vB
 obtain⟨v1,f1,I,c1,p1⟩:=f r d1 b1 w1
 obtain⟨E,f2,C,c2,p2⟩:=f s d2 b2 vB
 have K:1<=D:=by
  by_cases z:D=0
  ·rw[z] at P;omega
  ·omega
 have M:1<=E:=by
  by_cases z:E=0
  ·rw[z] at C;omega
  ·omega
 have l:∀z:Int,g*z=0->z=0:=λz Q=>(Vj.mp Q).resolve_left vB
 have gr:(g:Rat)≠0:=λz=>by have:=Y9.mp z;omega
 have O:∀z:Rat,(g:Rat)*z=0->z=0:=λz Q=>(Kq.mp Q).resolve_left gr
 have sa:D*(h w).1+v1*(h G).1+E*(h A).1=0:=l _ (by rw[P,I,C] at Y;grind);have sb:D*(h w).2.1+v1*(h G).2.1+E*(h A).2.1=0:=l _ (by rw[P,I,C] at Z;grind);have sc:(D:Rat)*(((h w).2.2:Rat)-fac p*x w)+(v1:Rat)*(((h G).2.2:Rat)-fac p*x G)+(E:Rat)*(((h A).2.2:Rat)-fac p*x A)=0:=O _ (by
  rw[P,I,C] at sum;simp only[Z4] at sum;grind)
 clear sum Y Z;unfold shK kk1;rw[if_neg (show ¬o=0 by omega),if_neg (show ¬s=0 by omega),f0,f1,f2];by_cases z:r=0
 ·rw[if_pos z];have R:v1=0:=l _ (by rw[<-I];exact z);obtain⟨S,T,d,U⟩:=zki (L:=[((w:Int),D),((A:Int),E)]) (by simp;omega) (by
   intro e t e' m q;simp only[Zh,Zr,or_false] at t m;rcases t with rfl|rfl<;>rcases m with rfl|rfl
   ·rfl
   ·simp only at q;omega
   ·simp only at q;omega
   ·rfl)
  refine⟨S,T,Or.inl (by rw[d.length_eq];rfl),λe t=>?_,U,?_,?_,?_⟩
  ·have:=d.mem_iff.mp t
   simp only[Zh,Zr,or_false] at this;rcases this with rfl|rfl
   ·exact⟨w,rfl,X,K,c0⟩
   ·exact⟨A,rfl,l2,M,c2⟩
  ·rw[zcq d];simp only[Zx,W7,Y8,Kk,Z8];rw[R] at sa;omega
  ·rw[zcq d];simp only[Zx,W7,Y8,Kk,Z8];rw[R] at sb;omega
  ·rw[zcq d,znt d];simp only[Zx,W7,Y8,Kk,Z8,Kr,Z4];rw[R] at sc;rw[show((0:Int):Rat)=0 from rfl] at sc |-;grind
 ·rw[if_neg z];have V:1<=v1:=by
   by_cases y:v1=0
   ·rw[y] at I;omega
   ·omega
  obtain⟨S,T,d,U⟩:=zki (L:=[((w:Int),D),((G:Int),v1),((A:Int),E)]) (by simp;omega) (by
   intro e t e' m q;simp only[Zh,Zr,or_false] at t m;rcases t with rfl|rfl|rfl<;>rcases m with rfl|rfl|rfl<;>first|rfl|(simp only at q;omega))
  refine⟨S,T,Or.inr (by rw[d.length_eq];rfl),λe t=>?_,U,?_,?_,?_⟩
  ·have:=d.mem_iff.mp t
   simp only[Zh,Zr,or_false] at this;rcases this with rfl|rfl|rfl
   ·exact⟨w,rfl,X,K,c0⟩
   ·exact⟨G,rfl,l1,V,c1⟩
   ·exact⟨A,rfl,l2,M,c2⟩
  ·rw[zcq d];simp only[Zx,W7,Y8,Kk,Z8];omega
  ·rw[zcq d];simp only[Zx,W7,Y8,Kk,Z8];omega
  ·rw[zcq d,znt d];simp only[Zx,W7,Y8,Kk,Z8,Kr,Z4];rw[show((0:Int):Rat)=0 from rfl];grind
def dvd_g{g:Int}{t:H3}(d:g∣t.1)(e:g∣t.2.1)(f:g∣t.2.2):g∣gc (gc t.1 t.2.1) t.2.2:=Jd (Jd d e) f
def zqs{d n s:Int}(e:Int.gcd d n=1)(h:d∣n*s):d∣s:=by
 rw[<-Gh] at h |-;rw[Z5] at h;exact Nat.Coprime.dvd_of_dvd_mul_left e h
open Mg Fi Sf
open Mg Fi Sf PySem
section
variable{α:Type}{f:Nat->α}
def zep{n i:Nat}(h:i<n):((List.range n).map f)[i]? = some (f i):=by rw[Zj,K8 h];rfl
def znm{n k:Nat}(e:k<n):((List.range n).map f).eraseIdx k=(List.range (n-1)).map λi=>f (er k i):=by
 apply Qm
 intro i;rw[List.getElem?_eraseIdx];by_cases d:i<n-1
 ·rw[zep d];unfold er;split
  ·rw[zep vB]
  ·rw[zep vB]
 ·rw[Yl (l:=(List.range (n-1)).map _) (by rw[Zc,Z6];omega)];split
  ·next z=>omega
  ·rw[Yl (by rw[Zc,Z6];omega)]
def zik{n:Nat}{i:Int}{j:Nat}(d:j<n)(h:i=(j:Int)\/i=(j:Int)-n):L2.atI ((List.range n).map f) i=some (f j):=by
 have e:L2.ixN ((List.range n).map f).length i=some j:=by
  rw[Zc,Z6];unfold L2.ixN;rcases h with h|h
  ·rw[if_pos vB,if_pos vB];congr 1;omega
  ·rw[if_neg vB,if_pos vB];congr 1;omega
 unfold L2.atI;rw[e,Z9,zep d]
end
def flD(p:Nat)(h:H3)(x:Rat)(c:D):List D:=[.int (p:Int),hD h,fr x,c]
def osC(A:Nat->Addr)(h:Nat->H3)(x:Nat->Rat)(n:Nat)(J:Nat->Nat)(c:Nat->D):List (Addr×List D):=(List.range n).map λi=>(A (J i),flD (J i) (h (J i)) (x (J i)) (c i))
def osJ(A:Nat->Addr)(h:Nat->H3)(x:Nat->Rat)(n:Nat)(J:Nat->Nat):List (Addr×List D):=osC A h x n J λi=>clD (clJ h x n J i)
section
variable{A:Nat->Addr}{h:Nat->H3}{x:Nat->Rat}{n:Nat}{J:Nat->Nat}{c:Nat->D}
def ylf:(osC A h x n J c).length=n:=by unfold osC;rw[Zc,Z6]
def znw:dOs (osC A h x n J c)=(List.range n).map λi=>bD (A (J i)) (J i:Int) (h (J i)) (x (J i)) (c i):=by
 unfold dOs osC;rw[Ya];rfl
def zlo{i:Nat}{d:D}(g:i<n)(inj:∀i j,i<n->j<n->A (J i)=A (J j)->i=j):setC (osC A h x n J c) (A (J i)) d=osC A h x n J λj=>if j=i then d else c j:=by
 unfold setC osC;rw[Ya];refine We λj f=>?_;have f:=Wj.mp f;show(A (J j),if A (J j)=A (J i) then(flD (J j) (h (J j)) (x (J j)) (c j)).set 3 d else flD (J j) (h (J j)) (x (J j)) (c j))=(A (J j),flD (J j) (h (J j)) (x (J j)) (if j=i then d else c j));by_cases e:j=i
 ·subst e;rw[if_pos rfl,if_pos rfl];rfl
 ·rw[if_neg (λz=>e (inj j i f g z)),if_neg e]
def zit{i:Nat}(d:i<n):A (J i)∈(osC A h x n J c).map (·.1):=by
 unfold osC;rw[Ya];exact Zq.mpr ⟨i,Wj.mpr d,rfl⟩
def znx{d:Nat->D}(e:∀i,i<n->c i=d i):osC A h x n J c=osC A h x n J d:=by
 unfold osC;refine We λj f=>?_;rw[e j (Wj.mp f)]
def l1(n k:Nat):Nat:=if k=0 then n-2 else k-1
def l2(n k:Nat):Nat:=if k=n-1 then 0 else k
def yfp{k i:Nat}(d:3<=n)(e:k<n)(f:i<n-1)(g:i≠l1 n k)(j:i≠l2 n k):clJ h x (n-1) (λi=>J (er k i)) i=clJ h x n J (er k i):=by
 unfold clJ;have l:=ynm d e f;have m:=er_pv d e f;have o:nx n (er k i)≠k:=by
  unfold l1 at g;unfold nx er;split at g<;>(repeat' split)<;>omega
 have p:pv n (er k i)≠k:=by
  unfold l2 at j;unfold pv er;split at j<;>(repeat' split)<;>omega
 rw[if_neg o] at l;rw[if_neg p] at m;dsimp only;rw[l,m]
def ydr{k:Nat}(l:3<=n)(f:k<n)(inj:∀i j,i<n->j<n->A (J i)=A (J j)->i=j):
  setC (setC ((osJ A h x n J).eraseIdx k) (A (J (er k (l1 n k)))) (clD (clJ h x (n-1) (λi=>J (er k i)) (l1 n k)))) (A (J (er k (l2 n k)))) (clD (clJ h x (n-1) (λi=>J (er k i)) (l2 n k)))=osJ A h x (n-1) (λi=>J (er k i)):=by
 have m:(osJ A h x n J).eraseIdx k=osC A h x (n-1) (λi=>J (er k i)) λi=>clD (clJ h x n J (er k i)):=by
  unfold osJ osC;rw[znm f]
 have o:l1 n k<n-1:=by unfold l1;split<;>omega
 have p:l2 n k<n-1:=by unfold l2;split<;>omega
 have d:∀i j,i<n-1->j<n-1->A (J (er k i))=A (J (er k j))->i=j:=λi j g q e=>by
  have:=inj _ _ (zdj f g) (zdj f q) e
  unfold er at this;split at this<;>split at this<;>omega
 rw[m,zlo (J:=λi=>J (er k i)) o d,zlo (J:=λi=>J (er k i)) p d];refine znx λi g=>?_;split
 ·next z=>rw[z]
 ·next z=>
  split
  ·next y=>rw[y]
  ·next y=>rw[yfp l f g y z]
end
open Sf
open Mg Fi PySem
section
variable{Γ:Nat->∅}
def Psi(T:D)(a:Addr)(d:D):Prop:=∃(m l n:Addr) (o p q:Int) (e f g:H3) (h i j:Rat) (r s t:D),(Hb e/\Hb f/\Hb g)/\(Sz 2000 h/\Sz 2000 i/\Sz 2000 j)/\T=.tup [bD m o e h r,bD l p f i s,bD n q g j t]/\a=l/\d=clD (clo3 e f g h i j)
def den8{x:Rat}(z:Sz 2000 x):((x.den:Int)).natAbs<2^2000:=z.b
def dnz{x:Rat}:(x.den:Int)≠0:=by have:=x.den_nz;omega
def bd2{a b:Int}{m n:Nat}(d:a.natAbs<2^m)(e:b.natAbs<2^n):(a*b).natAbs<2^(m+n):=by rw[Z5];exact zam d e
def psi_ok(E:Γ 93=zaj):∀T a d,Psi T a d->∃h l,exs Γ o_set_closing.1 ([~~~T]++List.replicate 6 none)=some (.nx h)/\(view h)[6]? = some (some (.obj a l))/\ev Γ o_set_closing.2.1 (view h)=some (.val d):=by
 rintro T a d ⟨J,U,K,L,F,M,m,i,n,f,e,g,N,G,O,⟨o,p,q⟩,⟨s,u,v⟩,rfl,rfl,rfl⟩
 have P:=zen (a0:=J) (a1:=a) (a2:=K) (p0:=L) (p1:=F) (p2:=M) (x0:=f) (x1:=e) (x2:=g) (c0:=N) (c1:=G) (c2:=O) (o.hb vA) (p.hb vA) (q.hb vA);have w:=zba p q;have A:=zba q o;have B:=zba o p;have j:=den8 s;have r:=den8 u;have C:=den8 v;have D:(1:Int).natAbs<2^1:=by decide
 have H:=bd2 (bd2 (bd2 D j) r) C;have Q:(1*(f.den:Int)*(e.den:Int)*(g.den:Int)).fdiv (f.den:Int)=(e.den:Int)*(g.den:Int):=by
  rw[show(1*(f.den:Int)*(e.den:Int)*(g.den:Int))=(f.den:Int)*((e.den:Int)*(g.den:Int)) by grind];exact Z7 _ dnz
 have R:(1*(f.den:Int)*(e.den:Int)*(g.den:Int)).fdiv (e.den:Int)=(f.den:Int)*(g.den:Int):=by
  rw[show(1*(f.den:Int)*(e.den:Int)*(g.den:Int))=(e.den:Int)*((f.den:Int)*(g.den:Int)) by grind];exact Z7 _ dnz
 have S:(1*(f.den:Int)*(e.den:Int)*(g.den:Int)).fdiv (g.den:Int)=(f.den:Int)*(e.den:Int):=by
  rw[show(1*(f.den:Int)*(e.den:Int)*(g.den:Int))=(g.den:Int)*((f.den:Int)*(e.den:Int)) by grind];exact Z7 _ dnz
 have I:∀{x:Rat},Sz 2000 x->zbt (x.den:Int)=true:=λz=>zbr dnz (den8 z) vA
 have run:=yjw (Γ:=Γ) (a0:=J) (a1:=a) (a2:=K) (p0:=.int L) (p1:=.int F) (p2:=.int M) (cl0:=N) (cl1:=G) (cl2:=O) (s0:=m.1) (t0:=m.2.1) (u0:=m.2.2) (s1:=i.1) (t1:=i.2.1) (u1:=i.2.2) (s2:=n.1) (t2:=n.2.1) (u2:=n.2.2)
  (n0:=f.num) (n1:=e.num) (n2:=g.num) (d0:=f.den) (d1:=e.den) (d2:=g.den) (w0:=crI i n) (w1:=crI n m) (w2:=crI m i) (c:=1*f.den*e.den*g.den) (e0:=e.den*g.den) (e1:=f.den*g.den) (e2:=f.den*e.den)
  (by rw[E];exact P) (Br D j vA vA) (Br (bd2 D j) r vA vA) (Br (bd2 (bd2 D j) r) C vA vA) rfl
  (Br w o.c vA vA) (Br (bd2 w o.c) H vA vA) (Br w s.t vA vA) (I s) (Br (bd2 w s.t) (bd2 r C) vA vA) Q
  (Br A p.c vA vA) (Br (bd2 A p.c) H vA vA) (Br A u.t vA vA) (I u) (Br (bd2 A u.t) (bd2 j C) vA vA) R
  (Br B q.c vA vA) (Br (bd2 B q.c) H vA vA) (Br B v.t vA vA) (I v) (Br (bd2 B v.t) (bd2 j r) vA vA) S
 refine⟨_,[.int F,hD i,fr e,G],run,?_,?_⟩
 ·rfl
 ·exact yjv
def yah(c:Option (Int×Int)):lf (clD c)=true:=by cases c<;>rfl
def zhb{f:Nat->D}{n i:Nat}{k:Int}(d:i<n)(g:2<=n)(h:k=(i:Int)\/(k = -1/\i=n-1)):zci [.lst ((List.range n).map f),.int k]=some (.val (.tup [f (pv n i),f i,f (nx n i)])):=by
 refine ybt (by rw[Zc,Z6];omega) (zik (zfw d) ?_) (zik d vB) (zik (zgv d) ?_)
 ·unfold pv;split<;>omega
 ·rw[Zc,Z6,Q6 _ vB];left
  unfold nx;split
  ·next e=>
   have:k+1=(n:Int)\/k+1=0:=by omega
   rcases this with z|z
   ·rw[z,Int.emod_self];rfl
   ·rw[z];rfl
  ·next e=>rw[Bh vB vB];omega
def Tht(e:List (Addr×List D))(f:Int)(d:List (Addr×List D)):Prop:=∃(A:Nat->Addr) (h:Nat->H3) (x:Nat->Rat) (n:Nat) (J:Nat->Nat) (k:Nat),(∀i,Hb (h i))/\(∀i,Sz 2000 (x i))/\3<=n/\n<=1000/\k<n/\(∀i j,i<n->j<n->A (J i)=A (J j)->i=j)/\e=osJ A h x n J/\f=(k:Int)/\d=osJ A h x (n-1) λi=>J (er k i)
def zxh{A:Nat->Addr}{h:Nat->H3}{x:Nat->Rat}{n:Nat}{J:Nat->Nat}{c:Nat->D}(d:∀i,Hb (h i))(e:∀i,Sz 2000 (x i))(i:Nat):
  Psi (.tup [bD (A (J (pv n i))) (J (pv n i):Int) (h (J (pv n i))) (x (J (pv n i))) (c (pv n i)),bD (A (J i)) (J i:Int) (h (J i)) (x (J i)) (c i),bD (A (J (nx n i))) (J (nx n i):Int) (h (J (nx n i))) (x (J (nx n i))) (c (nx n i))]) (A (J i)) (clD (clJ h x n J i)):=
 ⟨_,_,_,_,_,_,_,_,_,_,_,_,_,_,_,⟨d _,d _,d _⟩,⟨e _,e _,e _⟩,rfl,rfl,rfl⟩
def ynq(d:Γ 92=zci){L:List D}{k:Int}{T:D}(h:zci [.lst L,.int (k-1)]=some (.val T)):evs Γ o_drop.1 [some (.lst L),some (.int k)]=some [T]:=by
 unfold o_drop;dsimp only;walk_at "evh"
def ynp(d:Γ 92=zci){L:List D}{k m:Int}{T:D}(e:(L.length:Int)=m)(f:0<m)(mn:m≠0)(h:zci [.lst L,.int (k%m)]=some (.val T)):evs Γ o_drop.2 [some (.lst L),some (.int k)]=some [T]:=by
 unfold o_drop;dsimp only;walk_at "evh"
def tht_ok(o:Γ 92=zci):∀d g l,Tht d g l -> -(2^63)<=g/\g<2^63/\∃n B r s C u v,seqIndex? g d.length=some n/\n<d.length /\
   evs Γ o_drop.1 [some (.lst (dOs (d.eraseIdx n))),some (.int g)]=some [B]/\Psi B r s/\lf s=true/\r∈(d.eraseIdx n).map (·.1) /\
   evs Γ o_drop.2 [some (.lst (dOs (setC (d.eraseIdx n) r s))),some (.int g)]=some [C]/\Psi C u v/\lf v=true/\u∈(d.eraseIdx n).map (·.1)/\l=setC (setC (d.eraseIdx n) r s) u v:=by
 rintro d g l ⟨A,h,x,n,J,k,D,sx,G,L,p,inj,rfl,rfl,rfl⟩
 have E:(osJ A h x n J).length=n:=ylf;have w:l1 n k<n-1:=by unfold l1;split<;>omega
 have F:l2 n k<n-1:=by unfold l2;split<;>omega
 have q:∀i j,i<n-1->j<n-1->A (J (er k i))=A (J (er k j))->i=j:=λi j H I e=>by
  have:=inj _ _ (zdj p H) (zdj p I) e
  unfold er at this;split at this<;>split at this<;>omega
 have t:(osJ A h x n J).eraseIdx k=osC A h x (n-1) (λi=>J (er k i)) λi=>clD (clJ h x n J (er k i)):=by
  unfold osJ osC;rw[znm p]
 have K:setC ((osJ A h x n J).eraseIdx k) (A (J (er k (l1 n k)))) (clD (clJ h x (n-1) (λi=>J (er k i)) (l1 n k)))=osC A h x (n-1) (λi=>J (er k i)) λj=>if j=l1 n k then clD (clJ h x (n-1) (λi=>J (er k i)) (l1 n k)) else clD (clJ h x n J (er k j)):=by
  rw[t,zlo (J:=λi=>J (er k i)) w q]
 refine⟨by omega,by omega,k,_,_,_,_,_,_,?_,by rw[E];exact p,?_,zxh (A:=A) (J:=λi=>J (er k i)) (n:=n-1) (c:=λi=>clD (clJ h x n J (er k i))) D sx (l1 n k),yah _,?_,?_,zxh (A:=A) (J:=λi=>J (er k i)) (n:=n-1) (c:=λj=>if j=l1 n k then clD (clJ h x (n-1) (λi=>J (er k i)) (l1 n k)) else clD (clJ h x n J (er k j))) D sx (l2 n k),yah _,?_,(ydr G p inj).symm⟩
 ·rw[E];exact(L2.ixN_seq (show L2.ixN n (k:Int)=some k by unfold L2.ixN;rw[if_pos vB,if_pos vB];congr 1)).1
 ·rw[t,znw];refine ynq o (zhb (f:=λi=>bD (A (J (er k i))) (J (er k i):Int) (h (J (er k i))) (x (J (er k i))) (clD (clJ h x n J (er k i)))) w vB ?_);unfold l1;split<;>omega
 ·rw[t];exact zit (J:=λi=>J (er k i)) w
 ·rw[K,znw];refine ynp o (m:=((n-1:Nat):Int)) (by rw[Zc,Z6]) vB vB (zhb (f:=λj=>bD (A (J (er k j))) (J (er k j):Int) (h (J (er k j))) (x (J (er k j))) (if j=l1 n k then clD (clJ h x (n-1) (λi=>J (er k i)) (l1 n k)) else clD (clJ h x n J (er k j)))) F vB (.inl ?_));unfold l2;split
  ·next z=>rw[show(k:Int)=((n-1:Nat):Int) by omega,Int.emod_self];rfl
  ·next z=>exact Bh vB vB
 ·rw[t];exact zit (J:=λi=>J (er k i)) F
end
open Sf
open Mg Fi PySem
section
variable{Γ:Nat->∅}
def zog{a b:Int}{q:Rat×Rat}(i:a.natAbs<2^110)(j:b.natAbs<2^110)(e:Sz 600 q.1)(f:Sz 600 q.2):zek [.int a,.int b,stD q]=some (.val (fr (lv a b q))):=by
 unfold zek;generalize d:tab zhe=Γ;have m:Γ 9=zcj:=by rw[<-d];rfl
 have l:Γ 11=By:=by rw[<-d];rfl
 have g:=zaz i vA;have h:=zaz j vA;have n:By [.tup [.int a,.int 1],fr q.1]=some (.val (fr ((a:Rat)*q.1))):=Bx (x:=(a:Rat)) (Bt g e vA vA);have o:By [.tup [.int b,.int 1],fr q.2]=some (.val (fr ((b:Rat)*q.2))):=Bx (x:=(b:Rat)) (Bt h f vA vA);have p:zcj [fr ((a:Rat)*q.1),fr ((b:Rat)*q.2)]=some (.val (fr (lv a b q))):=Bx (Bt (g.mul e) (h.mul f) vA vA);generalize fr (lv a b q)=O at *;generalize fr ((a:Rat)*q.1)=X at *;generalize fr ((b:Rat)*q.2)=Y at *;clear g h i j e f d;unfold zmt stD;walk_at "evh"
def zun(e:Γ 50=zek)(f:Γ 21=zgl){L:Option DL.B}{a b:Int}{X Q O:D}{d:Option DL.B}{c:Bool}(g:lf O=true)(h:lf X=true)(l1:zek [.int a,.int b,Q]=some (.val O))(i:zgl [X,O]=some (.val (.bl c))):
  exs Γ zfm [L,~~~.int a,~~~.int b,~~~X,~~~Q,d]=some (.nx [L,~~~.int a,~~~.int b,~~~(if c=true then O else X),~~~Q,~~~O]):=by
 unfold zfm;cases c
 ·walk_at "evh"
 ·walk_at "evh"
theorem zsk(f:Γ 50=zek)(g:Γ 21=zgl){a b:Int}(i:a.natAbs<2^110)(j:b.natAbs<2^110)(L:Option DL.B):∀(r:List (Rat×Rat)) (x:Rat) (c d:Option DL.B),SzL 600 r->Sz 1500 x ->
  ∃l m,forN (zai (.name 4)) (exs Γ zfm) (r.map stD) [L,~~~.int a,~~~.int b,~~~fr x,c,d]=some (.nx [L,~~~.int a,~~~.int b,~~~fr (mx a b x r),l,m])
 |[],x,c,d,_,_=>⟨c,d,rfl⟩
 |q::r,x,c,d,n,t=>by
  obtain⟨o,p⟩:=n q (.head _)
  have u:Sz 1500 (lv a b q):=(((zaz i vA).mul o).add ((zaz j vA).mul p)).mono vA;obtain⟨l,m,k⟩:=zsk f g i j L r (if x<lv a b q then lv a b q else x) (~~~stD q) (~~~fr (lv a b q)) (λy v=>n y (.tail _ v)) (by split<;>assumption)
  refine⟨l,m,?_⟩
  have w:zgl [fr x,fr (lv a b q)]=some (.val (.bl (decide (x<lv a b q)))):=Bx (Bt t u vA vA);have s:=zun (L:=L) (d:=d) f g (zjb _) (zjb _) (zog i j o p) w;have e:(if decide (x<lv a b q)=true then fr (lv a b q) else fr x)=fr (if x<lv a b q then lv a b q else x):=by
   by_cases h:x<lv a b q
   ·rw[decide_eq_true h,if_pos rfl,if_pos h]
   ·rw[decide_eq_false h,if_neg vA,if_neg h]
  rw[e] at s;rw[Zx,zcv rfl s];exact k
def zwx{a b:Int}(e:a.natAbs<2^110)(f:b.natAbs<2^110){q:Rat×Rat}{r:List (Rat×Rat)}(g:SzL 600 (q::r)):zff [.lst ((q::r).map stD),.int a,.int b]=some (.val (fr (mx a b (lv a b q) r))):=by
 unfold zff;generalize d:tab zhd=Γ;have h:Γ 50=zek:=by rw[<-d];rfl
 have i:Γ 21=zgl:=by rw[<-d];rfl
 obtain⟨j,m⟩:=g q (.head _)
 have l1:=zog e f j m;obtain⟨o,p,k⟩:=zsk h i e f (~~~.lst ((q::r).map stD)) r (lv a b q) none none (λy n=>g y (.tail _ n)) ((((zaz e vA).mul j).add ((zaz f vA).mul m)).mono vA)
 have s:L2.atI ((q::r).map stD) 0=some (stD q):=by rw[Zx,zrd vA (by rw[Zv];omega)];rfl
 have t:cutD ((q::r).map stD) (some 1) none=r.map stD:=by
  have:=ztb (l:=(q::r).map stD) (a:=1) (by rw[Zc,Zv];omega)
  rw[show((1:Nat):Int)=1 from rfl] at this;rw[this];rfl
 have u:=zcf r;unfold zfm at k;generalize (q::r).map stD=v at *;generalize r.map stD=w at *;generalize stD q=Q at *;generalize mx a b (lv a b q) r=M at *;generalize lv a b q=X at *;clear j m g e f d;unfold zjn;walk_at "evh"
def bo_it(f:Γ 40=ziw){d e:D}{L:List D}(h:ziw [d]=some (.new L)):evI Γ o_bounds_of.1 [~~~d,~~~e,none,none,none,none,none]=some (zdk L,[~~~d,~~~e,none,none,none,none,none]):=by
 have g:frz [~~~d,~~~e,none,none,none,none,none]=[~~~d,~~~e,none,none,none,none,none]:=rfl;unfold o_bounds_of;dsimp only;walk_at "evh"
def bo_le(e:Γ 10=B8)(f:Γ 59=zff){g d p:D}{a b c:Int}{h:Option D}{M O:D}(i:zff [d,.int (-a),.int (-b)]=some (.val M))(j:B8 [.tup [.int 0,.int 1],M]=some (.val O)):ev Γ o_bounds_of.2.1 (rB g d (some p) (some (.tup [.int a,.int b,.int c])) h none)=some (.val O):=by
 unfold o_bounds_of rB;dsimp only;walk_at "evh"
def bo_s3(e:Γ 92=zci){f g:D}{i j l:Option D}{k:Int}{d:List (Addr×List D)}{T:D}(h:zci [.lst (dOs d),.int k]=some (.val T)):evs Γ o_bounds_of.2.2.1 (rhoB (rB f g i j l (some (.int k))) 2 d)=some [T]:=by
 unfold o_bounds_of rhoB rB;dsimp only;walk_at "evh"
def bo_sl{f g:D}{h i j:Option D}{d:List (Addr×List D)}:evs Γ o_bounds_of.2.2.2 (rhoB (rB f g h i j none) 2 d)=some [.int (d.length:Int)]:=by
 have e:((dOs d).length:Int)=(d.length:Int):=by unfold dOs;rw[Zc]
 unfold o_bounds_of rhoB rB;dsimp only;walk_at "evh"
structure Bd2(l r:List V):Prop where
 hl:IsShp l
 hr:IsShp r
 zl:SzL 165 l
 hb:∀i,Hb (hS l i)
 zr:SyL 600 600 r
 fl:l.length<=60
 fr:r.length<=60
def Bd2.pr{l r:List V}(T:Bd2 l r):0<r.length:=by have:=T.hr.three;omega
def xS(l r:List V)(i:Nat):Rat:=lwS r (hS l i)
def Bd2.sx{l r:List V}(T:Bd2 l r)(i:Nat):Sz 2000 (xS l r i):=lwS_sz T.pr (T.hb i) T.zr
structure TwoS(l r:List V):Prop extends Bd2 l r where
 zs:SyL 80 12 r
def TwoS.mk'{l r:List V}(e:IsShp l)(f:IsShp r)(g:SzL 165 l)(h:∀i,Hb (hS l i))(zs:SyL 80 12 r)(j:l.length<=60)(fr:r.length<=60):TwoS l r:=
 ⟨⟨e,f,g,h,λq d=>⟨(zs q d).1.mono vA vA,(zs q d).2.mono vA vA⟩,j,fr⟩,zs⟩
def TwoS.ss{l r:List V}(T:TwoS l r)(i:Nat):Sy 184 26 (xS l r i):=lwS_sy T.pr (T.hb i) T.zs
def lsS(l r:List V)(c:Nat->D):List (List D):=(List.range l.length).map λi=>flD i (hS l i) (xS l r i) (c i)
def Xi(d e:D)(f:List (List D)):Prop:=∃l r,Bd2 l r/\d=.lst (l.map stD)/\e=.lst (r.map stD)/\f=lsS l r λi=>clD (clJ (hS l) (xS l r) l.length (λi=>i) i)
def zww{l r:List V}(T:Bd2 l r)(i:Nat):∃M,zff [.lst (r.map stD),.int (-(hS l i).1),.int (-(hS l i).2.1)]=some (.val (fr M))/\B8 [.tup [.int 0,.int 1],fr M]=some (.val (fr (xS l r i))):=by
 have g:=T.hb i;have d:=T.sx i;have f:=T.zr;have h:=T.pr;unfold xS lwS at *;match r,h,f,d with
 |q::r,_,f,d=>
  refine⟨_,zwx (by rw[Jj];exact Ze g.a (Bn vA)) (by rw[Jj];exact Ze g.b (Bn vA)) (f.sz vA vA),?_⟩
  have e:mx (-(hS l i).1) (-(hS l i).2.1) (lv (-(hS l i).1) (-(hS l i).2.1) q) r=0-(0-mx (-(hS l i).1) (-(hS l i).2.1) (lv (-(hS l i).1) (-(hS l i).2.1) q) r):=by grind
  simp only[List.headD_cons,List.tail_cons] at d |-;refine Bx (x:=0) (Bt (m:=1) (n:=2000) ⟨by decide,by decide⟩ ?_ vA vA);rw[e,Jf,Rat.zero_add];exact d.neg
def rng_getD{e:Type}{d:List e}{a:e}:(List.range d.length).map (λi=>d.getD i a)=d:=by
 apply Qm
 intro i;by_cases h:i<d.length
 ·rw[zep h,Zi,Zg h];rfl
 ·rw[Yl (by rw[Zc,Z6];omega),Yl vB]
def zlx{f:Type}{d:List f}{a:f}(g:d.Nodup){i j:Nat}(h:i<d.length)(l:j<d.length)(e:d.getD i a=d.getD j a):i=j:=by
 rw[Zi,Zi,Zg h,Zg l] at e;exact(Kg g).mp e
def xi_ok(E:Γ 40=ziw)(F:Γ 10=B8)(G:Γ 59=zff)(H:Γ 92=zci):∀m o I,Xi m o I->∃g q,g.length<1000/\evI Γ o_bounds_of.1 [~~~m,~~~o,none,none,none,none,none]=some (g,[~~~m,~~~o,none,none,none,none,none])/\q.length=g.length /\
   (∀(i:Nat) (d:D),g[i]? = some d->∃p s l,d=D.tup [p,s]/\q[i]? = some [p,s,l,.non]/\∀t,ev Γ o_bounds_of.2.1 (rB m o (some p) (some s) t none)=some (.val l)) /\
   (∀K L t z,z.length=g.length->evs Γ o_bounds_of.2.2.2 (rhoB (rB m o K L t none) 2 z)=some [.int (z.length:Int)]) /\
   ∀h,h.Nodup->h.length=g.length->yaf Γ Psi m o o_bounds_of.2.2.1 g.length h q I:=by
 rintro m o I ⟨l,r,T,rfl,rfl,rfl⟩
 have N:=T.hl.three;have B:(zdk ((zdn l).map hD)).length=l.length:=by unfold zdk;rw[Zc,Kn,Zc,zub]
 refine⟨zdk ((zdn l).map hD),lsS l r λ_=>.non,?_,bo_it E (zwi (nodup T.hl) vB (by have:=T.fl;omega) T.zl),?_,λi d C=>?_,λK L t z _=>bo_sl,λh R P=>?_⟩
 ·rw[B];have:=T.fl;omega
 ·rw[B];unfold lsS;rw[Zc,Z6]
 ·have u:i<l.length:=by
   have:=(Zo.mp C).1
   rw[B] at this;exact this
  unfold zdk at C;rw[Zj,List.getElem?_zipIdx,Zj,zuc u] at C;have w:D.tup [.int ((0+i:Nat):Int),hD (hS l i)]=d:=Z3 C;rw[Wc] at w;obtain⟨M,S,U⟩:=zww T i
  refine⟨.int (i:Int),hD (hS l i),fr (xS l r i),w.symm,?_,λt=>?_⟩
  ·unfold lsS;rw[zep u];rfl
  ·exact bo_le F G S U
 ·rw[B] at P |-;obtain⟨v,_⟩:∃a,h[0]? = some a:=⟨h[0]'vB,Zg _⟩
  have inj:∀i j,i<l.length->j<l.length->h.getD i v=h.getD j v->i=j:=λi j u V e=>zlx R vB vB e
  refine⟨λk=>osC (λi=>h.getD i v) (hS l) (xS l r) l.length (λi=>i) λi=>if i<k then clD (clJ (hS l) (xS l r) l.length (λi=>i) i) else .non,?_,?_,?_,λk O=>?_⟩
  ·unfold osC;rw[Ya,<-P];exact rng_getD
  ·unfold osC lsS;rw[Ya];exact We λi _=>by simp only[Function.comp,Nat.not_lt_zero,if_false]
  ·unfold osC lsS;rw[Ya];exact We λi u=>by simp only[Function.comp,Wj.mp u,if_true]
  ·refine⟨_,_,_,λK L t=>bo_s3 H ?_,zxh (A:=λi=>h.getD i v) (J:=λi=>i) (n:=l.length) (c:=λi=>if i<k then clD (clJ (hS l) (xS l r) l.length (λi=>i) i) else .non) T.hb T.sx k,yah _,zit (J:=λi=>i) O,?_⟩
   ·rw[znw];exact zhb (f:=λi=>bD (h.getD i v) ((i:Nat):Int) (hS l i) (xS l r i) (if i<k then clD (clJ (hS l) (xS l r) l.length (λi=>i) i) else .non)) O vB (.inl rfl)
   ·rw[zlo (A:=λi=>h.getD i v) (J:=λi=>i) O inj];refine znx λi u=>?_;by_cases e:i=k
    ·subst e;rw[if_pos rfl,if_pos (Wz _)]
    ·rw[if_neg e];by_cases Q:i<k
     ·rw[if_pos Q,if_pos vB]
     ·rw[if_neg Q,if_neg vB]
def ear_s0{d:Nat->Option (Int×Int)}{j:Nat}(h:d j=none):ear d (j+1)=ear d j:=by
 conv=>lhs;unfold ear
 rw[h]
def ear_s1{d:Nat->Option (Int×Int)}{j:Nat}{r:Int×Int}(h:d j=some r)(f:ear d j=none):ear d (j+1)=some j:=by
 conv=>lhs;unfold ear
 rw[h];simp only;rw[f]
def ear_s2{d:Nat->Option (Int×Int)}{j i:Nat}{r p:Int×Int}(h:d j=some r)(f:ear d j=some i)(g:d i=some p):ear d (j+1)=some (if r.1*p.2<p.1*r.2 then j else i):=by
 conv=>lhs;unfold ear
 rw[h];simp only;rw[f];simp only;rw[g]
def zoq{L:List D}{n:Nat}{h:Nat->Option (Int×Int)}(K:L.length=n)(z:n<=1000)(A:∀i,i<n->∃a p s l,L[i]? = some (.obj a [.int p,s,l,clD (h i)]))(G:∀i q,h i=some q->0<q.2)
 (B:∀i q,h i=some q->q.1.natAbs<2^16000/\q.2.natAbs<2^16000):zau [.lst L]=some (.val (fD (ear h n))):=by
 unfold zau;generalize m:tab [(21,zbb)]=Γ;have C:Γ 21=zbb:=by rw[<-m];rfl
 obtain⟨M,e,E,v,rfl⟩:=zmb (bt:=zai (.name 2)) (fb:=exs Γ zmo) (I:=λk H=>∃E v,H=[~~~.lst L,~~~fD (ear h k),E,v]) n [~~~.lst L,~~~.non,none,none] ⟨none,none,rfl⟩ (λj H N ⟨E,v,e⟩=>by
  subst e;have bf:=zmq G j;obtain⟨a,p,s,l,g⟩:=A j N
  have o:=ybc g;refine⟨[~~~.lst L,~~~fD (ear h j),~~~.int (j:Int),v],?_⟩
  cases q:h j with
  |none=>
   rw[q] at o;refine⟨_,rfl,yfg (by cases ear h j<;>rfl) o,_,_,by rw[ear_s0 q]⟩
  |some r=>
   rw[q] at o;cases f:ear h j with
   |none=>exact⟨_,rfl,zzp o,_,_,by rw[ear_s1 q f];rfl⟩
   |some i=>
    rw[f] at bf;obtain⟨V,t,F,W⟩:=bf
    obtain⟨Y,Z,s',l',gi⟩:=A i vB
    have u:=ybc gi;rw[F] at u;obtain⟨O,P⟩:=B j r q
    obtain⟨Q,R⟩:=B i t F
    have S:=zkq (a:=r.1) (b:=r.2) (c:=t.1) (d:=t.2) (by unfold Bw;rw[decide_eq_true O,decide_eq_true R];rfl) (by unfold Bw;rw[decide_eq_true Q,decide_eq_true P];rfl);refine⟨_,rfl,yfh C o u S,~~~.int (j:Int),~~~.tup [.int r.1,.int r.2],?_⟩
    rw[ear_s2 q f F];by_cases w:r.1*t.2<t.1*r.2
    ·rw[decide_eq_true w,if_pos rfl,if_pos w];rfl
    ·rw[decide_eq_false w,if_neg vA,if_neg w];rfl)
 have J:lf (fD (ear h n))=true:=by cases ear h n<;>rfl
 generalize T:fD (ear h n)=X at *;have U:(L.length:Int)=(n:Int):=by rw[K]
 have r1 : -4611686018427387904<=(n:Int)/\(n:Int)<4611686018427387904:=⟨by omega,by omega⟩;have r2:((n:Int)).toNat=n:=Z8 n;unfold zef;clear A G B T m z;walk_at "evh"
end
open Sf
open Mg Fi PySem
section
variable{Γ:Nat->∅}
def yhv{j:∅}(l:Γ 95=j){f g:D}{i:Option D}{d:List (Addr×List D)}{k:D}(h:j [.lst (dOs d)]=some (.val k)):ev Γ o_fit.1 (rhoB (rF f g i 6) 2 d)=some (.val k):=by
 have e:rhoB (rF f g i 6) 2 d=[some f,some g,some (.lst (dOs d)),i,none,none,none,none,none,none]:=rfl;rw[e];unfold o_fit;dsimp only;clear e;walk_at "evh"
def fit_te{g:∅}(i:Γ 96=g){d0 d1:D}{k:Int}{f:List (Addr×List D)}{b:Bool}(h:g [.lst (dOs f),.int k]=some (.val (.bl b))):((ev Γ o_fit.2.1 (rhoB (rF d0 d1 (some (.int k)) 6) 2 f)).map W.d).bind zax=some (!b):=by
 have e:rhoB (rF d0 d1 (some (.int k)) 6) 2 f=[some d0,some d1,some (.lst (dOs f)),some (.int k),none,none,none,none,none,none]:=rfl;rw[e];unfold o_fit;dsimp only;clear e;walk_at "evh"
def yfa{f g h i:∅}(q:Γ 92=f)(s:Γ 1=g)(p:Γ 126=h)(r:Γ 98=i){d0 d1:D}{L:List D}{k t b:Int}{d j l P S X F V:D}{a:Addr}{SS PS m:List D}(u:lf d=false)
 (v:f [.lst L,.int k]=some (.val (.tup [d,j,l])))(w:L2.atI L k=some (.obj a [P,S,X,.tup [.int t,.int b]]))(z:g [.int t,.int b]=some (.val F))(A:lf F=true)(B:h [.tup [d,j,l]]=some (.new SS))(C:lfL SS=true)
 (E:∀n o,ev Γ (.comp (.var 1) (.tup [1,2]) (.seqV 7) 3 [] .non) [some d0,some d1,some (.lst L),some (.int k),some (.tup [d,j,l]),some (.tup [.int t,.int b]),some F,some (.lst SS),n,o]=some (.new PS))
 (G:∀n o,ev Γ (.comp (.var 2) (.tup [1,2]) (.seqV 7) 3 [] .non) [some d0,some d1,some (.lst L),some (.int k),some (.tup [d,j,l]),some (.tup [.int t,.int b]),some F,some (.lst SS),n,o]=some (.new m))
 (H:lfL PS=true)(I:lfL m=true)(J:i [d,j,F]=some (.val V)):
  exs Γ o_fit.2.2 (rFs d0 d1 (.lst L) (.int k) 6)=some (.rt (.val (.tup [F,V,.lst PS,.lst m]))):=by
 have e:rFs d0 d1 (.lst L) (.int k) 6=[~~~d0,~~~d1,~~~.lst L,~~~.int k,none,none,none,none,none,none]:=rfl;have K:frz [~~~d0,~~~d1,~~~.lst L,~~~.int k,none,none,none,none,none,none]=[~~~d0,~~~d1,~~~.lst L,~~~.int k,none,none,none,none,none,none]:=rfl;rw[e];unfold o_fit;dsimp only;clear e;walk_at "evh"
section
variable{A:Nat->Addr}{h:Nat->H3}{x:Nat->Rat}{N n:Nat}{J:Nat->Nat}
def zsw(d:∀i,Hb (h i))(f:∀i,Sz 2000 (x i))(g:n<=1000):zau [.lst (dOs (osJ A h x n J))]=some (.val (fD (ear (clJ h x n J) n))):=by
 unfold osJ;rw[znw];refine zoq (by rw[Zc,Z6]) g (λi j=>⟨A (J i),(J i:Int),hD (h (J i)),fr (x (J i)),by rw[zep j];rfl⟩) (λi q e=>(zfl e).1) (λi q e=>?_);obtain⟨l,m⟩:=zte (d _) (d _) (d _) (f _) (f _) (f _) e
 exact⟨Ze l (Bn vA),Ze m (Bn vA)⟩
def zvu{c:Nat->D}{k:Nat}(d:k<n)(e:2<=n):zci [.lst (dOs (osC A h x n J c)),.int (k:Int)]=some (.val (.tup [bD (A (J (pv n k))) (J (pv n k):Int) (h (J (pv n k))) (x (J (pv n k))) (c (pv n k)),bD (A (J k)) (J k:Int) (h (J k)) (x (J k)) (c k),bD (A (J (nx n k))) (J (nx n k):Int) (h (J (nx n k))) (x (J (nx n k))) (c (nx n k))])):=by
 rw[znw];exact zhb (f:=λi=>bD (A (J i)) (J i:Int) (h (J i)) (x (J i)) (c i)) d e (.inl rfl)
def zzo(d:∀i,Hb (h i)){k:Nat}(e:k<n)(f:2<=n):ziy [.lst (dOs (osJ A h x n J)),.int (k:Int)]=some (.val (.bl (decide (0<=crI (h (J (nx n k))) (h (J (pv n k))))))):=
 yff (zvu e f) (zen ((d _).hb vA) ((d _).hb vA) ((d _).hb vA))
theorem zst(r:Γ 95=zau)(s:Γ 96=ziy)(z:∀i,Hb (h i))(E:∀i,Sz 2000 (x i)){v H:V}(I:v≠H)(K:∀j,j<N->x j<=xr (wy (h j)) v)(u:∀j,j<N->x j<=xr (wy (h j)) H){d0 d1:D}:∀(m n:Nat) (J:Nat->Nat) (t:Rat),n<=m->n<=1000->Lst h x N n J t->(∀i j,i<n->j<n->A (J i)=A (J j)->i=j) ->
  ∃(f:Nat->List (Addr×List D)) (q:Nat->Int) (T:Nat),f 0=osJ A h x n J/\q 0=(((ear (clJ h x n J) n).getD 0:Nat):Int)/\Lps Γ Tht d0 d1 6 o_fit.1 f q T/\(∀j,j<=T->((ev Γ o_fit.2.1 (rhoB (rF d0 d1 (some (.int (q j))) 6) 2 (f j))).map W.d).bind zax=some (decide (j<T))) /\
   f T=osJ A h x (finJ h x m n J).1 (finJ h x m n J).2.1/\q T=((finJ h x m n J).2.2:Int)
 |0,n,J,t,P,F,L,inj=>by have:=L.ok.three;omega
 |m+1,n,J,t,P,F,L,inj=>by
  obtain⟨k,p,X⟩:=L.next I K u
  have Q:=L.ok.three;have M:∀l,ev Γ o_fit.1 (rhoB (rF d0 d1 l 6) 2 (osJ A h x n J))=some (.val (.int (k:Int))):=λl=>by
   have:=zsw (A:=A) (J:=J) z E F
   rw[X.ear] at this;exact yhv r this
  have B:=fit_te (Γ:=Γ) (d0:=d0) (d1:=d1) s (zzo (A:=A) (J:=J) (x:=x) z X.lt vB);unfold finJ;simp only[X.ear,Q9];by_cases C:0<=crI (h (J (nx n k))) (h (J (pv n k)))
  ·rw[if_pos C];rw[decide_eq_true C] at B;refine⟨λ_=>osJ A h x n J,λ_=>(k:Int),0,rfl,rfl,⟨λ_ _ l=>M l,λj g=>by omega,λj g=>by omega⟩,λj g=>?_,rfl,rfl⟩
   have:j=0:=by omega
   subst this;exact B
  ·rw[if_neg C];rw[decide_eq_false C] at B;obtain⟨L2,Y⟩:=X.drop L vB
   have w:∀i j,i<n-1->j<n-1->A (J (er k i))=A (J (er k j))->i=j:=λi j G g e=>by
    have:=inj _ _ (zdj X.lt G) (zdj X.lt g) e
    unfold er at this;split at this<;>split at this<;>omega
   obtain⟨f,q,T,O,Z,lp,R,S,U⟩:=zst r s z E I K u (d0:=d0) (d1:=d1) m (n-1) (λi=>J (er k i)) _ vB vB L2 w
   refine⟨λj=>match j with|0=>osJ A h x n J|j+1=>f j,λj=>match j with|0=>(k:Int)|j+1=>q j,T+1,rfl,rfl,⟨λj g l=>?_,λj g=>?_,λj g a o=>?_⟩,λj g=>?_,S,U⟩
   ·cases j with
    |zero=>exact M l
    |succ j=>exact lp.ke j vB l
   ·cases j with
    |zero=>
     show Tht (osJ A h x n J) (k:Int) (f 0);rw[O];exact⟨A,h,x,n,J,k,z,E,Q,F,X.lt,inj,rfl,rfl,rfl⟩
    |succ j=>exact lp.th j vB
   ·cases j with
    |zero=>
     have o:a∈(f 0).map (·.1):=o;show a∈(osJ A h x n J).map (·.1);rw[O] at o;unfold osJ osC at o;rw[Ya] at o;obtain⟨i,G,e⟩:=Zq.mp o
     rw[<-e];exact zit (zdj X.lt (Wj.mp G))
    |succ j=>exact lp.sb j vB a o
   ·cases j with
    |zero=>rw[decide_eq_true (K0 T)];exact B
    |succ j=>
     have:=R j vB
     rw[show decide (j+1<T+1)=decide (j<T) from decide_eq_decide.mpr vB];exact this
end
def FitIs(l r:List V)(t:Rat)(v:V)(S:List (Int×Int)):Prop:=∃n J k p,finJ (hS l) (xS l r) l.length l.length (λi=>i)=(n,J,k)/\FinS (hS l) (xS l r) l.length n J k p/\t=fac p /\
 v=mt (wy (hS l (J (pv n k)))) (wy (hS l (J k))) (((hS l (J (pv n k))).2.2:Rat)-fac p*xS l r (J (pv n k))) (((hS l (J k)).2.2:Rat)-fac p*xS l r (J k)) /\
 ssK (shK (J (pv n k):Nat) (J k:Nat) (J (nx n k):Nat) (crI (hS l (J k)) (hS l (J (nx n k)))) (crI (hS l (J (nx n k))) (hS l (J (pv n k)))) (crI (hS l (J (pv n k))) (hS l (J k)))
   (gc (gc (gc 0 (crI (hS l (J k)) (hS l (J (nx n k))))) (crI (hS l (J (nx n k))) (hS l (J (pv n k))))) (crI (hS l (J (pv n k))) (hS l (J k)))))=S.map toL/\Cert (hS l) (xS l r) l.length (fac p) S
def fit_is{l r:List V}(T:TwoS l r):∃t v S,FitIs l r t v S:=by
 obtain⟨p,F⟩:=ymu T.hl T.hr
 obtain⟨S,d,e⟩:=yai F T.hb
 exact⟨_,_,S,_,_,_,p,rfl,F,rfl,rfl,d,e⟩
def fitD(t:Rat)(v:V)(S:List (Int×Int)):W:=.val (.tup [fr t,stD v,.lst (S.map λe=>.int e.1),.lst (S.map λe=>.int e.2)])
def yaa{S:List (Int×Int)}{d:Rho}{e:E}{f:Int×Int->D}(i:S.length<=1000)(g:varD d 7=some (.lst (S.map λe=>dK (toL e))))(h:∀p∈S,zne Γ e (.tup [1,2]) 3 [] .non d (dK (toL p))=some (some (f p))):ev Γ (.comp e (.tup [1,2]) (.seqV 7) 3 [] .non) d=some (.new (S.map f)):=by
 rw[zje,zsv,g];show(if _ then _ else none)=_;rw[if_pos ⟨by rw[Zc,Q2];omega,rfl⟩,zfk h];rfl
theorem zls{d:Type}(f:d->Int):∀S:List d,lfL (S.map λe=>D.int (f e))=true
 |[]=>rfl
 |a::S=>zls f S
theorem zyo:∀S:List (Int×Int),lfL (S.map λe=>dK (toL e))=true
 |[]=>rfl
 |a::S=>zyo S
def yms(s:Γ 95=zau)(H:Γ 96=ziy)(K:Γ 92=zci)(h1:Γ 1=zcs)(u:Γ 126=zgb)(L:Γ 98=zbh){l r:List V}(T:TwoS l r){t:Rat}{v:V}{S:List (Int×Int)}(I:FitIs l r t v S):
  ztl Γ Xi Tht 6 o_fit.1 o_fit.2.1 o_fit.2.2 (.lst (l.map stD)) (.lst (r.map stD)) (fitD t v S):=by
 obtain⟨n,J,k,p,en,F,rfl,rfl,es,ce⟩:=I
 have fl:=T.fl;have M:=T.hl.three;have r3:=T.hr.three;have w:0<r.length:=by omega
 have B:∀g:List (Addr×List D),g.map (·.2)=lsS l r (λi=>clD (clJ (hS l) (xS l r) l.length (λi=>i) i))->(g.map (·.1)).Nodup->∃A:Nat->Addr,g=osJ A (hS l) (xS l r) l.length (λi=>i)/\∀i j,i<l.length->j<l.length->A i=A j->i=j:=λg e C=>by
  have ln:(g.map (·.1)).length=l.length:=by
   have:=congrArg List.length e
   unfold lsS at this;rw[Zc,Zc,Z6] at this;rw[Zc];exact this
  obtain⟨a0,_⟩:∃a,(g.map (·.1))[0]? = some a:=⟨(g.map (·.1))[0]'vB,Zg _⟩
  refine⟨λi=>(g.map (·.1)).getD i a0,yle ?_ ?_,λi j hi hj z=>zlx C vB vB z⟩
  ·unfold osJ osC;rw[Ya,<-ln];exact rng_getD.symm
  ·rw[e];unfold osJ osC lsS;rw[Ya];rfl
 have E:∀q,q∈r->∀j,j<l.length->xS l r j<=xr (wy (hS l j)) q:=λq hq j _=>(zcu w _).1 q hq
 refine⟨_,(((ear (clJ (hS l) (xS l r) l.length λi=>i) l.length).getD 0:Nat):Int),⟨l,r,T.toBd2,rfl,rfl,rfl⟩,λg e C=>?_,λg e C=>?_⟩
 ·obtain⟨A,N,inj⟩:=B g e C
  subst N;have:=zsw (A:=A) (n:=l.length) (J:=λi=>i) T.hb T.sx vB
  obtain⟨k',p',X⟩:=(zkm T.hl (xS l r)).next (zfa (nodup T.hr) vB 0) (E _ (Bz w _)) (E _ (Bz w _))
  rw[X.ear] at this |-;exact yhv s this
 ·obtain⟨A,N,inj⟩:=B g e C
  subst N;obtain⟨O,ks,Tn,o0,k0,lp,ts,oT,kT⟩:=zst (Γ:=Γ) (A:=A) (d0:=.lst (l.map stD)) (d1:=.lst (r.map stD)) s H T.hb T.sx (zfa (nodup T.hr) vB 0) (E _ (Bz w _)) (E _ (Bz w _)) l.length l.length (λi=>i) 0 (Zl _) vB (zkm T.hl (xS l r)) inj
  refine⟨O,ks,Tn,o0,k0,lp,ts,?_⟩
  rw[oT,kT,en];dsimp only;have d:=T.hb;have G:=T.ss;have o:=F.lt;have n3:=F.three;obtain⟨z1,z2⟩:=yag (d _) (d _) (d _) (G _) (G _) (G _) F.cl
  have pos:=F.bot;have m:∀i j,i<n->j<n->i≠j->J i≠J j:=λi j hi hj ne=>by
   rcases Yd i j with z|z
   ·have:=F.mono i j z hj;omega
   ·have:=F.mono j i vB hi;omega
  have P:(J (pv n k):Int)≠(J k:Int):=λz=>m _ _ (zfw o) o (by unfold pv;split<;>omega) vB
  have Q:(J (pv n k):Int)≠(J (nx n k):Int):=λz=>m _ _ (zfw o) (zgv o) (zlk n3 o) vB
  have R:(J k:Int)≠(J (nx n k):Int):=λz=>m _ _ o (zgv o) (by unfold nx;split<;>omega) vB
  have c0:=zba (d (J k)) (d (J (nx n k)));have c2:=zba (d (J (pv n k))) (d (J k));have gp:gc (gc (gc 0 (crI (hS l (J k)) (hS l (J (nx n k))))) (crI (hS l (J (nx n k))) (hS l (J (pv n k))))) (crI (hS l (J (pv n k))) (hS l (J k)))≠0:=by
   have:=zfi (a:=gc (gc 0 (crI (hS l (J k)) (hS l (J (nx n k))))) (crI (hS l (J (nx n k))) (hS l (J (pv n k))))) (b:=crI (hS l (J (pv n k))) (hS l (J k))) (by have:=F.w2;omega)
   omega
  have gb:(gc (gc (gc 0 (crI (hS l (J k)) (hS l (J (nx n k))))) (crI (hS l (J (nx n k))) (hS l (J (pv n k))))) (crI (hS l (J (pv n k))) (hS l (J k)))).natAbs<2^181:=Ye (yey (by have:=F.w2;omega)) c2;have sh:=zue (a0:=A (J (pv n k))) (a1:=A (J k)) (a2:=A (J (nx n k))) (x0:=xS l r (J (pv n k))) (x1:=xS l r (J k)) (x2:=xS l r (J (nx n k))) (c0:=clD (clJ (hS l) (xS l r) n J (pv n k))) (c1:=clD (clJ (hS l) (xS l r) n J k)) (c2:=clD (clJ (hS l) (xS l r) n J (nx n k))) ((d (J (pv n k))).hb vA) ((d (J k)).hb vA) ((d (J (nx n k))).hb vA) P Q R (zbr gp gb vA);rw[es,Ya] at sh;have U:Sz 420 (fac p):=yhx pos z1 z2;have ex:∀i,Sz 190 (xS l r i):=λi=>(G i).sz vA vA
  have cz:∀i,Sz 150 ((hS l i).2.2:Rat):=λi=>zaz (d i).c vA
  have W:=zqe (a:=A (J (pv n k))) (a':=A (J k)) (p:=(J (pv n k):Int)) (p':=(J k:Int)) (cl:=clD (clJ (hS l) (xS l r) n J (pv n k))) (cl':=clD (clJ (hS l) (xS l r) n J k)) ((d (J (pv n k))).hb vA) ((d (J k)).hb vA) (U.mono vA) ((ex (J (pv n k))).mono vA) ((ex (J k)).mono vA) (by have:=F.w2;omega)
   (((cz (J (pv n k))).sub (U.mul (ex (J (pv n k))))).mono vA) (((cz (J k)).sub (U.mul (ex (J k)))).mono vA)
  have sl:S.length<=1000:=by rcases ce.len with z|z<;>omega
  have ra:zcs [.int p.1,.int p.2]=some (.val (fr (fac p))):=by
   rw[yhz];exact yeg vB (Ze z2 (Bn vA))
  have Y:L2.atI (dOs (osJ A (hS l) (xS l r) n J)) (k:Int)=some (.obj (A (J k)) [.int (J k:Int),hD (hS l (J k)),fr (xS l r (J k)),.tup [.int p.1,.int p.2]]):=by
   unfold osJ;rw[znw,zik (f:=λi=>bD (A (J i)) (J i:Int) (hS l (J i)) (xS l r (J i)) (clD (clJ (hS l) (xS l r) n J i))) o (.inl rfl),F.cl];rfl
  have tl:=yfa (Γ:=Γ) (d0:=.lst (l.map stD)) (d1:=.lst (r.map stD)) K h1 u L rfl (zvu (A:=A) (h:=hS l) (x:=xS l r) (J:=J) (c:=λi=>clD (clJ (hS l) (xS l r) n J i)) o vB) Y ra rfl sh (zyo S)
   (λx8 x9=>yaa (f:=λe=>.int e.1) sl rfl λe he=>by rfl) (λx8 x9=>yaa (f:=λe=>.int e.2) sl rfl λe he=>by rfl) (zls _ S) (zls _ S) W
  rw[show osJ A (hS l) (xS l r) n J=osC A (hS l) (xS l r) n J λi=>clD (clJ (hS l) (xS l r) n J i) from rfl];rw[tl];have Z:((((hS l (J k)).2.1:Rat)*(((hS l (J (pv n k))).2.2:Rat)-fac p*xS l r (J (pv n k)))-((hS l (J (pv n k))).2.1:Rat)*(((hS l (J k)).2.2:Rat)-fac p*xS l r (J k)))/((crI (hS l (J (pv n k))) (hS l (J k)):Int):Rat),(((hS l (J (pv n k))).1:Rat)*(((hS l (J k)).2.2:Rat)-fac p*xS l r (J k))-((hS l (J k)).1:Rat)*(((hS l (J (pv n k))).2.2:Rat)-fac p*xS l r (J (pv n k))))/((crI (hS l (J (pv n k))) (hS l (J k)):Int):Rat))=mt (wy (hS l (J (pv n k)))) (wy (hS l (J k))) (((hS l (J (pv n k))).2.2:Rat)-fac p*xS l r (J (pv n k))) (((hS l (J k)).2.2:Rat)-fac p*xS l r (J k)):=by
   unfold Fi.mt;rw[zeg,Yz,Yz];unfold wy;exact Ys (by dsimp only;grind) (by dsimp only;grind)
  unfold fitD;rw[<-Z]
def yhu{x y:Rat}(h:fr x=fr y):x=y:=by
 unfold fr at h;have d:x.num=y.num:=by injection h with h;injection h with h _;injection h
 have e:(x.den:Int)=(y.den:Int):=by injection h with h;injection h with _ h;injection h with h _;injection h
 exact Rat.ext d vB
def yjk{p q:V}(h:stD p=stD q):p=q:=by
 unfold stD at h;have d:fr p.1=fr q.1:=by injection h with h;injection h
 have e:fr p.2=fr q.2:=by injection h with h;injection h with _ h;injection h
 exact Ys (yhu d) (yhu e)
theorem zce:∀{l m:List V},l.map stD=m.map stD->l=m
 |[],[],_=>rfl
 |[],_::_,h=>by cases h
 |_::_,[],h=>by cases h
 |a::l,b::m,h=>by
  rw[Zx,Zx] at h;injection h with d e
  rw[yjk d,zce e]
def FitAt(d:List D)(w:W):Prop:=∃l r t v S,TwoS l r/\FitIs l r t v S/\d=[.lst (l.map stD),.lst (r.map stD)]/\w=fitD t v S
open Classical in
def mFit(d:List D):Option W:=if h:∃w,FitAt d w then some h.choose else none
def ymt(g:Γ 95=zau)(i:Γ 96=ziy)(j:Γ 92=zci)(s:Γ 1=zcs)(d:Γ 126=zgb)(m:Γ 98=zbh):∀n o p,mFit [n,o]=some p->ztl Γ Xi Tht 6 o_fit.1 o_fit.2.1 o_fit.2.2 n o p:=λn o p h=>by
 unfold mFit at h;split at h
 ·next z=>
  obtain⟨l,r,t,v,S,T,I,e,u⟩:=z.choose_spec
  have f:=Z3 h;rw[u] at f;subst f;injection e with w q
  injection q with q _
  rw[w,q];exact yms g i j s d m T I
 ·cases h
def zmc{l r:List V}(T:TwoS l r):∃t v S,FitIs l r t v S/\mFit [.lst (l.map stD),.lst (r.map stD)]=some (fitD t v S):=by
 obtain⟨t,v,S,I⟩:=fit_is T
 have ex:∃w,FitAt [.lst (l.map stD),.lst (r.map stD)] w:=⟨_,l,r,t,v,S,T,I,rfl,rfl⟩;unfold mFit;rw[dif_pos ex];obtain⟨n,o,g,h,i,p,j,e,m⟩:=ex.choose_spec
 injection e with f d
 injection d with d _
 injection f with f
 injection d with d
 have:=zce f
 have:=zce d
 subst_vars
 exact⟨g,h,i,j,by rw[m]⟩
end
open Sf
open Mg Fi PySem
section
variable{Γ:Nat->∅}
def lt_mul{x y:Rat}{m n:Nat}(d:Sz m x)(e:Sz n y)(f:m<=4400)(g:n<=4400):zyg [fr x,fr y]=some (.val (fr (x*y))):=Bx (Bt d e f g)
def yhh(i:Int):D.tup [.int i,.int 1]=fr (i:Rat):=by
 unfold fr;rw[Rat.num_intCast,Rat.den_intCast];rfl
end
open Sf
open Mg Fi PySem
section
variable{Γ:Nat->∅}
def denb{x:Rat}{n:Nat}(h:Sz n x):((x.den:Int)).natAbs<2^n:=h.b
end
open Sf
open Mg Fi PySem
section
variable{Γ:Nat->∅}
def yid{d:List Int}{k:Nat}(h:k<=d.length):cutD (d.map D.int) (some (k:Int)) none=(d.drop k).map D.int:=by
 rw[zzz (by rw[Zc];exact h),Vz]
def fitv{l r:List V}(T:TwoS l r){t:Rat}{v:V}{S:List (Int×Int)}(I:FitIs l r t v S):0<t/\Sz 420 t/\(Sz 1900 v.1/\Sz 1900 v.2)/\(∀j,j<l.length->(((hS l j).2.2:Int):Rat)-t*xS l r j<=xr (wy (hS l j)) v)/\Cert (hS l) (xS l r) l.length t S:=by
 obtain⟨n,J,k,p,A,F,rfl,rfl,B,q⟩:=I
 have d:=T.hb;have e:=T.ss;obtain⟨s,u⟩:=yag (d _) (d _) (d _) (e _) (e _) (e _) F.cl
 have f:=yhx F.bot s u;refine⟨F.fac,f,?_,F.keep,q⟩
 have ex:∀i,Sz 190 (xS l r i):=λi=>(e i).sz vA vA
 have w:∀i,Sz 150 ((hS l i).2.2:Rat):=λi=>zaz (d i).c vA
 have ee:∀i,Sz 765 (((hS l i).2.2:Rat)-fac p*xS l r i):=λi=>((w i).sub (f.mul (ex i))).mono vA
 have g:∀i,Sz 90 ((hS l i).1:Rat):=λi=>zaz (d i).a vA
 have h:∀i,Sz 90 ((hS l i).2.1:Rat):=λi=>zaz (d i).b vA
 have m:Sz 181 ((crI (hS l (J (pv n k))) (hS l (J k)):Int):Rat):=zaz (zba (d _) (d _)) vA;have o:((crI (hS l (J (pv n k))) (hS l (J k)):Int):Rat)≠0:=λz=>by
  have:=Y9.mp z
  have:=F.w2
  omega
 unfold Fi.mt;rw[zeg];dsimp only;refine⟨?_,?_⟩
 ·rw[<-Yz];exact((((ee _).mul (h _)).sub ((ee _).mul (h _))).div m o).mono vA
 ·rw[<-Yz];exact((((ee _).mul (g _).neg).sub ((ee _).mul (g _).neg)).div m o).mono vA
def numP{x:Rat}(h:0<x):0<x.num:=by
 have:(0:Rat)<((x.num:Int):Rat):=by rw[zoa];exact Zz h (zgj x)
 rw[show(0:Rat)=((0:Int):Rat) from rfl,Z1] at this;exact this
end
open Sf
open Mg Fi PySem
section
variable{Γ:Nat->∅}
theorem ygb:∀d w,zgl d=some w->zbb d=some w
 |[],w,h=>by cases h
 |[_],w,h=>by cases h
 |[a,b],w,h=>yds [a,b] w rfl h
 |_::_::_::_,w,h=>by cases h
def ok_reachR(g:Γ 50=zek)(i:Γ 21=zbb):∀d w,d.length=3->zff d=some w->run Γ zjn 6 d=some w:=λd w _ h=>by
 have l:∀f d w,tab zhd f d=some w->Γ f d=some w:=λf d w q=>by
  by_cases e:f=50
  ·subst e;rw[g];exact q
  ·by_cases j:f=21
   ·subst j;rw[i];exact ygb d w q
   ·unfold zhd at q;rw[tab_s e,tab_s j] at q;cases q
 unfold zff run at h;unfold run;exact Bk (λo=>exs_le l zjn _ o vA) (λ_ _ z=>z) h
def ok_law_bows_k32:∀d w,d.length=1->zgx d=some w->run Γ zbf 5 d=some w:=zqa
def ok_law_ring_k31(d:Γ 105=zgx):∀e w,e.length=1->zfe e=some w->run Γ zbd 7 e=some w:=znz d
def ok_law_shape_k31(e:Γ 46=zfe)(d:Γ 103=zct):∀f w,f.length=1->zbk f=some w->run Γ zav 10 f=some w:=zlp e d
end
section
open L2
variable{P:Program}{w:World}{K:vE}{mg:Str->Option Value}{base:Heap}
theorem GSp.mono{j k:Nat}{x:Str}{sp:Sp}(G:GSp P w K mg base j x sp)(h:j<=k):GSp P w K mg base k x sp:=by
 obtain⟨a,d,ps,F,e,f,g⟩:=G
 exact⟨a,d,ps,F.mono h,e,f,g⟩
theorem MkB.mono{j k:Nat}(M:MkB P w K mg base j)(h:j<=k):MkB P w K mg base k:=by
 obtain⟨C,f,d,ps,e,g,i,l,m⟩:=M.ex
 exact⟨C,f,d,ps,e,g,i,l.mono h,m⟩
def atc_mk{h:Stmt}{C f:Addr}{i:Value}{j:Option Addr}{kV e m:Value}{n:Option Addr}{d ct:Value}{g:Array (Option Value)}(a:PySem.W.nsIn K mainGlobals "Bound" = some (some (.ref C)))(o:PySem.W.findIn K (.ref C) "__init__" = some (some (.ref f)))
 (p:PySem.W.plainGet K C Str.empty=true)(q:PySem.W.hasDictIn K C=true)(r:PySem.W.plainOver K C=true)(s:PySem.W.findIn K (.ref C) "__setattr__" = some (some (.builtin "object.__setattr__")))
 (t:PySem.W.findIn K (.ref C) "place" = some none)(u:PySem.W.findIn K (.ref C) "side" = some none)(v:PySem.W.findIn K (.ref C) "least" = some none)(w:PySem.W.findIn K (.ref C) "closing" = some none)
 (z:PySem.W.makesIn K C=true)(A:PySem.W.isFn K (.ref f)=true)(B:PySem.W.keepIn K (.ref C)=true)
 (l:K.lookup f=some ⟨i,j,.func (PySem.W.fnOf "__init__" "Bound.__init__" (zbm h) (Bl h) (Bj h) .none kV e m n d ct),g⟩)(c:PySem.W.codeIn K d "Bound.__init__" = true)(k:PySem.W.keepIn K (.ref f)=true):AtC K h:=
 ⟨C,f,i,j,kV,e,m,n,d,ct,g,a,⟨p,q,r,s⟩,⟨t,u,v,w⟩,⟨z,o,A,B⟩,l,c,k⟩
end
open Mg Fi Sf
theorem zwd{d:Type}{f g:d->Rat}:∀{S:List d},(∀e∈S,f e<=g e)->(S.map f).sum<=(S.map g).sum
 |[],_=>Wq
 |a::S,h=>by
  have i:=zwd (S:=S) λe l=>h e (.tail _ l)
  have j:=h a (.head _);simp only[Zx,Y8];grind
theorem zpn{d:Type}{f g:d->Rat}:∀{S:List d},(S.map λe=>f e+g e).sum=(S.map f).sum+(S.map g).sum
 |[]=>by simp only[W7,Kk];grind
 |a::S=>by
  have i:=zpn (f:=f) (g:=g) (S:=S);simp only[Zx,Y8];grind
theorem zkx{d:Type}{f:d->Rat}{k:Rat}:∀{S:List d},(S.map λe=>k*f e).sum=k*(S.map f).sum
 |[]=>by simp only[W7,Kk];grind
 |a::S=>by
  have i:=zkx (f:=f) (k:=k) (S:=S);simp only[Zx,Y8];grind
theorem zhg{d:Type}{f:d->Int}:∀{S:List d},(((S.map f).sum:Int):Rat)=(S.map λe=>((f e:Int):Rat)).sum
 |[]=>rfl
 |a::S=>by
  have i:=zhg (f:=f) (S:=S);simp only[Zx,Y8,Kr,i]
section
variable{h:Nat->H3}{x:Nat->Rat}{N:Nat}{t:Rat}{S:List (Int×Int)}
def Cert.zero(C:Cert h x N t S)(u:V):(S.map λe=>(e.2:Rat)*xr (wy (h e.1.toNat)) u).sum=0:=by
 have a:(S.map λe=>((e.2*(h e.1.toNat).1:Int):Rat)).sum=0:=by rw[<-zhg,C.sa];rfl
 have b:(S.map λe=>((e.2*(h e.1.toNat).2.1:Int):Rat)).sum=0:=by rw[<-zhg,C.sb];rfl
 have e:(S.map λe=>(e.2:Rat)*xr (wy (h e.1.toNat)) u)=S.map λe=>u.1*((e.2*(h e.1.toNat).1:Int):Rat)+u.2*((e.2*(h e.1.toNat).2.1:Int):Rat):=
  We λe _=>by rw[zkc,Z4,Z4];grind
 rw[e,zpn,zkx,zkx,a,b];grind
def Cert.sc'(C:Cert h x N t S):(S.map λe=>(e.2:Rat)*((h e.1.toNat).2.2:Rat)).sum=t*(S.map λe=>(e.2:Rat)*x e.1.toNat).sum:=by
 have:=C.sc
 rw[zhg] at this;rw[<-this];exact congrArg List.sum (We λe _=>by rw[Z4])
def Cert.w(C:Cert h x N t S){e:Int×Int}(d:e∈S):(0:Rat)<(e.2:Rat)/\e.1.toNat<N:=by
 obtain⟨j,f,g,i,_⟩:=C.ok e d
 refine⟨?_,by rw[f,Z8];exact g⟩
 rw[show(0:Rat)=((0:Int):Rat) from rfl,Z1];omega
def Cert.ne(C:Cert h x N t S):S≠[]:=λz=>by rcases C.len with y|y<;>rw[z] at y<;>cases y
def Cert.neg(C:Cert h x N t S){P:List V}(g:∀j,j<N->∀q∈P,((h j).2.2:Rat)<=xr (wy (h j)) q)(i:∀j,j<N->∃q∈P,((h j).2.2:Rat)<xr (wy (h j)) q):(S.map λe=>(e.2:Rat)*((h e.1.toNat).2.2:Rat)).sum<0:=by
 match S,C with
 |[],C=>exact absurd rfl C.ne
 |e::S,C=>
  obtain⟨l,m⟩:=C.w (e:=e) (.head _)
  obtain⟨q,n,o⟩:=i _ m
  have z:=C.zero q;have r:(S.map λe=>(e.2:Rat)*((h e.1.toNat).2.2:Rat)).sum<=(S.map λe=>(e.2:Rat)*xr (wy (h e.1.toNat)) q).sum:=zwd λd f=>by
   obtain⟨p,l1⟩:=C.w (e:=d) (.tail _ f)
   have:=Zp (Zu p) (show 0<=xr (wy (h d.1.toNat)) q-((h d.1.toNat).2.2:Rat) by have:=g _ l1 q n;grind)
   grind
  have lt:=Zz l (show 0<xr (wy (h e.1.toNat)) q-((h e.1.toNat).2.2:Rat) by grind);simp only[Zx,Y8] at z |-;grind
def Cert.max(C:Cert h x N t S)(f:0<t){P:List V}(g:∀j,j<N->∀q∈P,((h j).2.2:Rat)<=xr (wy (h j)) q)(i:∀j,j<N->∃q∈P,((h j).2.2:Rat)<xr (wy (h j)) q){s:Rat}{u:V}
 (l:∀j,j<N->((h j).2.2:Rat)<=s*x j+xr (wy (h j)) u):s<=t:=by
 have ng:=C.neg g i;have sc:=C.sc';have z:=C.zero u;have d:(S.map λe=>(e.2:Rat)*((h e.1.toNat).2.2:Rat)).sum<=(S.map λe=>s*((e.2:Rat)*x e.1.toNat)+(e.2:Rat)*xr (wy (h e.1.toNat)) u).sum:=zwd λe m=>by
  obtain⟨n,l1⟩:=C.w m
  have:=Zp (Zu n) (show 0<=s*x e.1.toNat+xr (wy (h e.1.toNat)) u-((h e.1.toNat).2.2:Rat) by have:=l _ l1;grind)
  grind
 rw[zpn,zkx,z] at d;rw[sc] at d ng;generalize (S.map λe=>(e.2:Rat)*x e.1.toNat).sum=X at *;have o:X<0:=by
  by_cases y:X<0
  ·exact y
  ·have:=Zp (Zu f) (show 0<=X by grind)
   grind
 by_cases y:s<=t
 ·exact y
 ·have:=Zz (show 0<s-t by grind) (show 0 < -X by grind)
  grind
end
open Mg Fi Sf
def InS(l:List V)(y:V):Prop:=∀j,j<l.length->(((hS l j).2.2:Int):Rat)<=xr (wy (hS l j)) y
def sp(s:Rat)(u q:V):V:=(s*q.1+u.1,s*q.2+u.2)
def zpf{d:V}{s:Rat}{u q:V}:xr d (sp s u q)=s*xr d q+xr d u:=by unfold xr sp;grind
def zwr{l:List V}{q:V}(h:q∈l):∃i,i<l.length/\rnd l i=q:=by
 obtain⟨i,d,e⟩:=Ki h
 refine⟨i,d,?_⟩
 unfold rnd;rw[Zm d,Zi,Zg d,<-e];rfl
def zdu{l:List V}(d:IsShp l){q:V}(h:q∈l):InS l q:=λj f=>by
 obtain⟨i,_,e⟩:=zwr h
 rw[<-e];exact(zkj d).corner i f
def zwj{l:List V}(d:IsShp l)(j:Nat):(((hS l j).2.2:Int):Rat)=xr (wy (hS l j)) (rnd l j):=by
 obtain⟨k,_,_,e⟩:=zfh d j
 exact e
def yhq{l:List V}(d:IsShp l){j:Nat}(f:j<l.length):∃q∈l,(((hS l j).2.2:Int):Rat)<xr (wy (hS l j)) q:=by
 obtain⟨m,g,e⟩:=(zkj d).way j f
 have:=Zz g ((zin d (nodup d)).turn j)
 refine⟨rnd l (j+2),Bz vB _,?_⟩
 have e:wy (hS l j)=sm m (ed (rnd l) j):=e;rw[zwj d,e,zdl,zdl];have h:xr (mn (rnd l (j+1)) (rnd l j)) (mn (rnd l (j+2)) (rnd l (j+1)))=xr (ed (rnd l) j) (rnd l (j+2))-xr (ed (rnd l) j) (rnd l j):=by unfold ed mn xr;grind
 rw[h] at this;grind
theorem zrg{f:Nat->Rat}:∀n,0<n->∃i,i<n/\∀j,j<n->f i<=f j
 |0,h=>absurd h (Wt 0)
 |1,_=>⟨0,by omega,λj d=>by rw[show j=0 by omega];exact Wq⟩
 |n+2,_=>by
  obtain⟨i,g,h⟩:=zrg (f:=f) (n+1) vB
  by_cases c:f i<=f (n+1)
  ·refine⟨i,by omega,λj d=>?_⟩
   by_cases e:j=n+1
   ·rw[e];exact c
   ·exact h j vB
  ·refine⟨n+1,by omega,λj d=>?_⟩
   by_cases e:j=n+1
   ·rw[e];exact Wq
   ·have:=h j vB;grind
def zhn{l:List V}(g:IsShp l){y:V}(h:InS l y)(d:V):∃q∈l,xr d q<=xr d y:=by
 have n:=g.three;have P:=zin g (nodup g);obtain⟨i,J,s⟩:=zrg (f:=λi=>xr d (rnd l i)) l.length vB
 refine⟨rnd l i,Bz vB _,?_⟩
 have all:∀k,xr d (rnd l i)<=xr d (rnd l k):=λk=>by
  have:=s (k%l.length) (Wn _ vB)
  have e:rnd l (k%l.length)=rnd l k:=by unfold rnd;rw[Uh]
  rw[e] at this;exact this
 have o:∀j,0<=xr (ed (rnd l) j) (mn y (rnd l j)):=λj=>by
  have u:j%l.length<l.length:=Wn _ vB;obtain⟨m,v,w,z⟩:=zfh g (j%l.length)
  have:=h _ u
  rw[z,w,zdl,zdl] at this;have p:rnd l (j%l.length)=rnd l j:=by unfold rnd;rw[Uh]
  have D:rnd l (j%l.length+1)=rnd l (j+1):=by unfold rnd;rw[Qb]
  have E:ed (rnd l) (j%l.length)=ed (rnd l) j:=by unfold ed;rw[p,D]
  rw[E,p] at this;have F:xr (ed (rnd l) j) (mn y (rnd l j))=xr (ed (rnd l) j) y-xr (ed (rnd l) j) (rnd l j):=by unfold xr mn;grind
  rw[F];exact zar v (by grind)
 have r:rnd l (i+l.length)=rnd l i:=P.per i;have a:=o i;have b:=o (i+l.length-1);have t:=P.turn (i+l.length-1);have K:=all (i+1);have L:=all (i+l.length-1);rw[show i+l.length-1+1=i+l.length by omega,show i+l.length-1+2=i+1+l.length by omega,r,P.per (i+1)] at t;have G:ed (rnd l) (i+l.length-1)=mn (rnd l i) (rnd l (i+l.length-1)):=by unfold ed;rw[show i+l.length-1+1=i+l.length by omega,r]
 rw[G] at b;have H:ed (rnd l) i=mn (rnd l (i+1)) (rnd l i):=rfl;rw[H] at a;generalize rnd l (i+1)=A at *;generalize rnd l (i+l.length-1)=B at *;generalize rnd l i=C at *;have key:xr (mn C B) (mn A C)*(xr d y-xr d C)=xr (mn C B) (mn y C)*(xr d A-xr d C)+xr (mn A C) (mn y C)*(xr d B-xr d C):=by unfold xr mn;grind
 have I:0<=xr (mn C B) (mn y C):=by
  have:xr (mn C B) (mn y B)=xr (mn C B) (mn y C):=by unfold xr mn;grind
  rw[<-this];exact b
 have M:=Zp I (show 0<=xr d A-xr d C by grind);have N:=Zp a (show 0<=xr d B-xr d C by grind);have:0<=xr d y-xr d C:=zar t (by rw[Ux];grind)
 grind
def ykb{l:List V}(g:IsShp l){s:Rat}{u:V}(h:∀q∈l,InS l (sp s u q)):s<=1/\(s=1->u=(0,0)):=by
 have i:=g.three;have side:∀j,j<l.length->(1-s)*(((hS l j).2.2:Int):Rat)<=xr (wy (hS l j)) u:=λj f=>by
  have:=h (rnd l j) (Bz vB _) j f
  rw[zpf,<-zwj g] at this;grind
 have d:=(zkj g).span;constructor
 ·by_cases c:s<=1
  ·exact c
  ·exfalso
   have r:0<s-1:=by grind
   have t:=Kj.mpr r;have v:=Y6 (s-1) (by grind);have all:∀p∈l,mn p (-(s-1)⁻¹*u.1,-(s-1)⁻¹*u.2)=(0,0):=λp w=>d _ λj f=>by
    have a:=zdu g w j f;have b:=Zp (Zu t) (show 0<=xr (wy (hS l j)) u-(1-s)*(((hS l j).2.2:Int):Rat) by have:=side j f;grind);have e:xr (wy (hS l j)) (mn p (-(s-1)⁻¹*u.1,-(s-1)⁻¹*u.2))=xr (wy (hS l j)) p+(s-1)⁻¹*xr (wy (hS l j)) u:=by unfold xr mn;grind
    rw[e];clear e;generalize (s-1)⁻¹=I at *;generalize xr (wy (hS l j)) u=X at *;generalize xr (wy (hS l j)) p=Y at *;generalize (((hS l j).2.2:Int):Rat)=m at *;have z:I*(X-(1-s)*m)=I*X+((s-1)*I)*m:=by grind
    rw[z,v] at b;clear side d h;grind
   have n:=all _ (Bz (l:=l) vB 0);have o:=all _ (Bz (l:=l) vB 1);refine zfa (nodup g) vB 0 (Ys ?_ ?_)
   ·have a:=congrArg Prod.fst n;have b:=congrArg Prod.fst o;unfold mn at a b;simp only at a b
    grind
   ·have a:=congrArg Prod.snd n;have b:=congrArg Prod.snd o;unfold mn at a b;simp only at a b
    grind
 ·intro e;subst e;exact d u λj f=>by have:=side j f;grind
open Mg Fi Sf
def lo_ex{l:List V}(g:0<l.length)(d:V):∃b,Lo l d b:=by
 obtain⟨i,o,h⟩:=zrg (f:=λi=>xr d (rnd l i)) l.length g
 refine⟨rnd l i,Bz g _,λc j=>?_⟩
 obtain⟨k,m,e⟩:=zwr j
 have:=h k m
 rw[e] at this;have n:xr d (mn c (rnd l i))=xr d c-xr d (rnd l i):=by unfold xr mn;grind
 rw[n];grind
open Mg Fi Sf
def ykh{l:List V}{f:V->V}(d:0<l.length)(i:Nat):rnd (l.map f) i=f (rnd l i):=by
 unfold rnd;have e:i%l.length<l.length:=Wn _ d;rw[Zc,Zi,Zi,Zj,Zg e];rfl
open Sf
open Mg Fi PySem
section
variable{Γ:Nat->∅}
def FitIs.keep{l r:List V}(T:TwoS l r){t:Rat}{v:V}{S:List (Int×Int)}(I:FitIs l r t v S):∀q∈r,InS l (sp t v q):=λq d j e=>by
 obtain⟨f,_,_,g,_⟩:=fitv T I
 have a:=g j e;have b:xS l r j<=xr (wy (hS l j)) q:=(zcu T.pr (hS l j)).1 q d;rw[zpf];have:=Zp (Zu f) (show 0<=xr (wy (hS l j)) q-xS l r j by grind)
 grind
theorem FitIs.max{l r:List V}(T:TwoS l r){t:Rat}{v:V}{S:List (Int×Int)}(I:FitIs l r t v S){s:Rat}{u:V}(h:∀q∈r,InS l (sp s u q)):s<=t:=by
 obtain⟨g,_,_,m,i⟩:=fitv T I
 refine i.max g (P:=l) (λj d q f=>zdu T.hl f j d) (λj d=>yhq T.hl d) (u:=u) λj d=>?_;obtain⟨_,q,f,e⟩:=zcu T.pr (hS l j)
 have:=h q f j d
 rw[zpf] at this;show _<=s*lwS r (hS l j)+_;rw[e];exact this
end
open Sf
open Mg Fi PySem
section
variable{Γ:Nat->∅}
def yil{f:V->V}{l:List V}{i:Nat}(h:i<l.length):at0 (l.map f) i=f (at0 l i):=by
 rw[zpb (by rw[Zc];exact h),zpb h,ykh vB]
end
open Mg Fi Sf
section
variable{h:Nat->H3}{x:Nat->Rat}{N:Nat}
def finP(h:Nat->H3)(x:Nat->Rat):Nat->Nat->(Nat->Nat)->Bool×Nat×(Nat->Nat)×Nat
 |0,n,J=>(false,n,J,0)
 |m+1,n,J=>let k:=(ear (clJ h x n J) n).getD 0
  let p:=(clJ h x n J k).getD (0,1)
  if p.1<p.2 then(if 0<=crI (h (J (nx n k))) (h (J (pv n k))) then(true,n,J,k) else finP h x m (n-1) λi=>J (er k i)) else(false,n,J,k)
structure PuE(h:Nat->H3)(x:Nat->Rat)(N n:Nat)(J:Nat->Nat):Prop where
 ok:Ok (λi=>wy (h (J i))) (λi=>((h (J i)).2.2:Rat)) (λi=>x (J i)) n 1
 mono:∀i k,i<k->k<n->J i<J k
 lt:∀i,i<n->J i<N
 back:∀y,(∀i,i<n->((h (J i)).2.2:Rat)-1*x (J i)<=xr (wy (h (J i))) y)->∀j,j<N->((h j).2.2:Rat)-1*x j<=xr (wy (h j)) y
def PuS(h:Nat->H3)(x:Nat->Rat)(N:Nat)(b:Bool)(n:Nat)(J:Nat->Nat)(k:Nat):Prop:=if b=true then ∃p,FinS h x N n J k p/\fac p<1 else PuE h x N n J
def yhy{p:Int×Int}(h:0<p.2):p.1<p.2↔fac p<1:=by
 have e:=zqm h;have d:(0:Rat)<(p.2:Rat):=by rw[show(0:Rat)=((0:Int):Rat) from rfl,Z1];exact h
 rw[<-Z1,<-e];constructor
 ·intro z;by_cases c:fac p<1
  ·exact c
  ·have:=Zp (show 0<=fac p-1 by grind) (Zu d)
   grind
 ·intro z;have:=Zz (show 0<1-fac p by grind) d
  grind
theorem zzk{v g:V}(l:v≠g)(o:∀j,j<N->x j<=xr (wy (h j)) v)(q:∀j,j<N->x j<=xr (wy (h j)) g):∀(m n:Nat) (J:Nat->Nat) (t:Rat),n<=m->t<=1->Lst h x N n J t->PuS h x N (finP h x m n J).1 (finP h x m n J).2.1 (finP h x m n J).2.2.1 (finP h x m n J).2.2.2
 |0,n,J,t,u,r,L=>by have:=L.ok.three;omega
 |m+1,n,J,t,u,r,L=>by
  obtain⟨k,p,X⟩:=L.next l o q
  unfold finP;simp only[X.ear,X.cl,Q9];by_cases d:p.1<p.2
  ·rw[if_pos d];have e:=(yhy X.pos).mp d;by_cases f:0<=crI (h (J (nx n k))) (h (J (pv n k)))
   ·rw[if_pos f];show PuS h x N true n J k;unfold PuS;rw[if_pos rfl];exact⟨p,X.finS L f,e⟩
   ·rw[if_neg f];obtain⟨L2,B⟩:=X.drop L vB
    exact zzk l o q m (n-1) _ _ vB (Zu e) L2
  ·rw[if_neg d];have e:1<=fac p:=by
    have:=λz=>d ((yhy X.pos).mpr z)
    grind
   show PuS h x N false n J k;unfold PuS;rw[if_neg vA];refine⟨⟨L.ok.three,L.ok.srt,L.ok.bend,λi s=>?_⟩,L.mono,L.lt,λy w=>L.back 1 y r w⟩
   have a:=L.ok.lens i s;have b:=X.ok.lens i s;rw[zzc] at a b |-;generalize tp (λi=>wy (h (J i))) (λi=>x (J i)) n i=A at *;generalize tp (λi=>wy (h (J i))) (λi=>((h (J i)).2.2:Rat)) n i=C at *;by_cases z:0<=A
   ·have:=Zp (show 0<=fac p-1 by grind) z
    grind
   ·have:=Zp (show 0<=1-t by grind) (show 0 <= -A by grind)
    grind
end
open Mg Fi Sf
def sp_sp{t s:Rat}{u w q:V}:sp t u (sp s w q)=sp (t*s) (sp t u w) q:=by
 unfold sp;exact Ys (by dsimp only;grind) (by dsimp only;grind)
def in_map{l r:List V}(d:IsShp r){t:Rat}{u:V}(e:0<=t)(h:∀q∈r,InS l (sp t u q)){y:V}(f:InS r y):InS l (sp t u y):=λj g=>by
 obtain⟨q,i,m⟩:=zhn d f (wy (hS l j))
 have a:=h q i j g;rw[zpf] at a |-;have:=Zp e (show 0<=xr (wy (hS l j)) y-xr (wy (hS l j)) q by grind)
 grind
def zyv{l r z:List V}(d:IsShp r){t s:Rat}{u w:V}(e:0<=t)(f:∀q∈r,InS l (sp t u q))(g:∀q∈z,InS r (sp s w q)):∀q∈z,InS l (sp (t*s) (sp t u w) q):=λq h=>by
 rw[<-sp_sp];exact in_map d e f (g q h)
def to_fro{l r:List V}(i:IsShp l)(j:IsShp r){t s:Rat}{u w:V}(m:0<t)(E:∀q∈r,InS l (sp t u q))(F:∀q∈l,InS r (sp s w q)):t*s<=1/\(t*s=1->l=(r.map (sc t)).map (pl u)):=by
 have I:=zyv j (Zu m) E F;obtain⟨a,b⟩:=ykb i I
 refine⟨a,λe=>?_⟩
 have z:=b e;have Q:=i.three;have R:=j.three;refine shp_eq i (IsShp.pushed (IsShp.sized j m) u) λd=>?_;obtain⟨p,n⟩:=lo_ex (l:=l) vB d
 obtain⟨g,o⟩:=lo_ex (l:=(r.map (sc t)).map (pl u)) (by rw[Zc,Zc];omega) d
 refine⟨p,g,n,o,?_⟩
 have h:∀q:V,pl u (sc t q)=sp t u q:=λq=>by unfold pl sc sp;exact Ys (by dsimp only;grind) (by dsimp only;grind)
 obtain⟨S,v,G⟩:=Zq.mp o.1
 obtain⟨J,A,B⟩:=Zq.mp v
 rw[<-B,h] at G;obtain⟨q,K,C⟩:=zhn i (E J A) d
 rw[G] at C;have L:=n.2 q K;have M:xr d (mn q p)=xr d q-xr d p:=by unfold xr mn;grind
 obtain⟨f,D,H⟩:=zhn j (F p n.1) d
 have N:=o.2 (pl u (sc t f)) (Zq.mpr ⟨_,Zq.mpr ⟨f,D,rfl⟩,rfl⟩);have O:xr d (mn (pl u (sc t f)) g)=xr d (sp t u f)-xr d g:=by rw[h];unfold xr mn;grind
 have P:sp t u (sp s w p)=p:=by
  rw[sp_sp,e,z];unfold sp;exact Ys (by dsimp only;grind) (by dsimp only;grind)
 have T:xr d (sp t u f)<=xr d p:=by
  have:=congrArg (xr d) P
  rw[zpf] at this |-;have:=Zp (Zu m) (show 0<=xr d (sp s w p)-xr d f by grind)
  grind
 rw[M] at L;rw[O] at N;grind
def yow{P Q:Nat->V}{n m:Nat}(v:Poly P n)(w:Poly Q m)(h:∀i j,0<=xr (ed P i) (mn (Q j) (P i)))(q:∀d j,(∀k,0<=xr d (mn (P k) (P j)))->∀k,0<=xr d (mn (Q k) (P j))){s:Nat×Nat}{T:List (Nat×Nat)}(r:Mg.Tr P Q n m s T):
  - xr (mn (Q s.2) (P n)) (mn (P s.1) (P n))<=arF P n (n-s.1)-(arF Q m (m-s.2)+xr (mn (Q m) (P n)) (mn (Q m) (Q s.2))):=by
 induction r with
 |nil=>
  simp only[Nat.sub_self];show-xr (mn (Q m) (P n)) (mn (P n) (P n))<=0-(0+xr (mn (Q m) (P n)) (mn (Q m) (Q m)))
  rw[zfz,zfz,xr_0];grind
 |@cons s t T I a b S r g=>
  have ok:=zwe v w I a b S;rcases S with⟨e,l,_⟩|⟨e,o,_⟩|⟨e,l,o,p⟩
  ·subst e;simp only at g |-
   rw[ygo l];have k:=h s.1 s.2;have key:xr (mn (Q s.2) (P n)) (mn (P (s.1+1)) (P n))-xr (mn (Q s.2) (P n)) (mn (P s.1) (P n))+xr (ed P s.1) (mn (Q s.2) (P s.1))=xr (ed P s.1) (mn (P n) (P (s.1+1))):=by unfold xr mn ed mn;grind
   grind
  ·subst e;simp only at g |-
   rw[ygo o];have k:=q (gw P Q s (s.1,s.2+1)) s.1 ok.lowP s.2;rw[gw2] at k;have key:xr (mn (Q (s.2+1)) (P n)) (mn (P s.1) (P n))-xr (mn (Q s.2) (P n)) (mn (P s.1) (P n))+xr (ed Q s.2) (mn (Q s.2) (P s.1))+xr (ed Q s.2) (mn (Q m) (Q (s.2+1))) = - xr (mn (Q m) (P n)) (mn (Q (s.2+1)) (Q s.2)):=by unfold xr mn ed mn;grind
   have f:xr (mn (Q m) (P n)) (mn (Q m) (Q s.2))=xr (mn (Q m) (P n)) (mn (Q m) (Q (s.2+1)))+xr (mn (Q m) (P n)) (mn (Q (s.2+1)) (Q s.2)):=by unfold xr mn;grind
   grind
  ·subst e;simp only at g |-
   rw[ygo l,ygo o];have u:=q (gw P Q s (s.1+1,s.2+1)) s.1 ok.lowP s.2;rw[gw3] at u;rw[ztn] at u;have key:xr (mn (Q (s.2+1)) (P n)) (mn (P (s.1+1)) (P n))-xr (mn (Q s.2) (P n)) (mn (P s.1) (P n))+xr (ed P s.1) (mn (Q s.2) (P s.1))+xr (ed Q s.2) (mn (Q s.2) (P s.1))-xr (ed Q s.2) (ed P s.1)=xr (ed P s.1) (mn (P n) (P (s.1+1)))-xr (ed Q s.2) (mn (Q m) (Q (s.2+1)))-xr (mn (Q m) (P n)) (mn (Q (s.2+1)) (Q s.2)):=by unfold xr mn ed mn;grind
   have f:xr (mn (Q m) (P n)) (mn (Q m) (Q s.2))=xr (mn (Q m) (P n)) (mn (Q m) (Q (s.2+1)))+xr (mn (Q m) (P n)) (mn (Q (s.2+1)) (Q s.2)):=by unfold xr mn;grind
   have z:xr (ed Q s.2) (ed P s.1)=0:=by rw[zaf,p];grind
   grind
def yoz{l r:List V}(f:IsShp l)(g:IsShp r)(h:∀q∈r,InS l q):Ar r<=Ar l:=by
 have I:=f.three;have J:=g.three;have n:=zin f (nodup f);have o:=zin g (nodup g);have u:∀i j,0<=xr (ed (rnd l) i) (mn (rnd r j) (rnd l i)):=λi j=>by
  have v:i%l.length<l.length:=Wn _ vB;obtain⟨m,z,p,s⟩:=zfh f (i%l.length)
  have:=h _ (Bz (l:=r) vB j) _ v
  rw[s,p,zdl,zdl] at this;have t:rnd l (i%l.length)=rnd l i:=by unfold rnd;rw[Uh]
  have A:rnd l (i%l.length+1)=rnd l (i+1):=by unfold rnd;rw[Qb]
  have B:ed (rnd l) (i%l.length)=ed (rnd l) i:=by unfold ed;rw[t,A]
  rw[B,t] at this;have C:xr (ed (rnd l) i) (mn (rnd r j) (rnd l i))=xr (ed (rnd l) i) (rnd r j)-xr (ed (rnd l) i) (rnd l i):=by unfold xr mn;grind
  rw[C];exact zar z (by grind)
 have low:∀d j,(∀k,0<=xr d (mn (rnd l k) (rnd l j)))->∀k,0<=xr d (mn (rnd r k) (rnd l j)):=λd j D k=>by
  obtain⟨q,E,F⟩:=zhn f (h _ (Bz (l:=r) vB k)) d
  obtain⟨i,_,e⟩:=zwr E
  have:=D i
  rw[e] at this;have p:xr d (mn q (rnd l j))=xr d q-xr d (rnd l j):=by unfold xr mn;grind
  have s:xr d (mn (rnd r k) (rnd l j))=xr d (rnd r k)-xr d (rnd l j):=by unfold xr mn;grind
  rw[p] at this;rw[s];grind
 have w:=yow n o u low (yiv n o (k:=l.length+r.length) (Zl _));simp only[Uy] at w;have G:rnd l l.length=rnd l 0:=by have:=n.per 0;rw[Wc] at this;exact this
 have H:rnd r r.length=rnd r 0:=by have:=o.per 0;rw[Wc] at this;exact this
 rw[G,H,zfz,zfz,xr_0,ar_sX vB,ar_sX vB] at w;show sX r r.length<=sX l l.length;grind
open Sf
open Mg Fi PySem
section
variable{Γ:Nat->∅}
def ymb{r:List V}{h:H3}(g:0<r.length)(b:Hb h)(d:SyL 600 600 r):Sy 1292 1202 (lwS r h):=by
 obtain⟨_,q,f,e⟩:=zcu g h
 rw[e,zkc];exact((syI b.a).mul (d q f).1).add ((syI b.b).mul (d q f).2) (k:=1291) vA vA
def Bd2.sy{l r:List V}(T:Bd2 l r)(i:Nat):Sy 1292 1202 (xS l r i):=ymb T.pr (T.hb i) T.zr
def zqd{a s:PySem.Addr}{p t:Int}{h d:H3}{x g:Rat}{u j:D}(b:Hb h)(i:Hb d)(z:Sy 1292 1202 x)(v:Sy 1292 1202 g)(L:crI h d≠0):
  zbh [bD a p h x u,bD s t d g j,fr 1]=some (.val (stD (Fi.mt (wy h) (wy d) ((h.2.2:Rat)-1*x) ((d.2.2:Rat)-1*g)))):=by
 have one:Sz 1 (1:Rat):=⟨by decide,by decide⟩;have M:Sz 150 (h.2.2:Rat):=zaz b.c vA;have N:Sz 150 (d.2.2:Rat):=zaz i.c vA;have w:Sz 1292 x:=z.sz vA vA;have l:Sz 1292 g:=v.sz vA vA;have A:Sy 90 1 (h.1:Rat):=syI b.a;have B:Sy 90 1 (d.1:Rat):=syI i.a;have C:Sy 90 1 (h.2.1:Rat):=syI b.b;have E:Sy 90 1 (d.2.1:Rat):=syI i.b;have O:=zho (a:=a) (p:=p) (cl:=u) M one w vA vA vA ((one.mul w).mono vA);have P:=zho (a:=s) (p:=t) (cl:=j) N one l vA vA vA ((one.mul l).mono vA);have o:Sy 1353 1203 ((h.2.2:Rat)-1*x):=by rw[Ug];exact(syI b.c).sub z (k:=1352) vA vA
 have q:Sy 1353 1203 ((d.2.2:Rat)-1*g):=by rw[Ug];exact(syI i.c).sub v (k:=1352) vA vA
 have F:Sz 181 ((crI h d:Int):Rat):=zaz (zba b i) vA;have G:((crI h d:Int):Rat)≠0:=λy=>L (Y9.mp y)
 have em:Fi.mt (wy h) (wy d) ((h.2.2:Rat)-1*x) ((d.2.2:Rat)-1*g)=(((d.2.1:Rat)*((h.2.2:Rat)-1*x)-(h.2.1:Rat)*((d.2.2:Rat)-1*g))/(crI h d:Rat),((h.1:Rat)*((d.2.2:Rat)-1*g)-(d.1:Rat)*((h.2.2:Rat)-1*x))/(crI h d:Rat)):=by
  unfold Fi.mt;rw[zeg,Yz,Yz];unfold wy;exact Ys (by dsimp only;grind) (by dsimp only;grind)
 rw[em];unfold zbh;generalize e:tab [(10,B8),(11,By),(20,zfg),(81,zby),(99,zgw)]=Γ;clear em;generalize Q:(h.2.2:Rat)-1*x=m at *;generalize R:(d.2.2:Rat)-1*g=n at *;have H:=E.mul o;have I:=C.mul q;have J:=A.mul q;have K:=B.mul o;have S:Sz 2700 ((d.2.1:Rat)*m-(h.2.1:Rat)*n):=(H.sub I (k:=2647) vA vA).sz vA vA;have T:Sz 2700 ((h.1:Rat)*n-(d.1:Rat)*m):=(J.sub K (k:=2647) vA vA).sz vA vA;have f:∀{a b:Nat}{y:Rat},Sy a b y->a<=4400->b<=4400->Sz 4400 y:=λU V W=>U.sz V W
 refine ziv (h10:=by rw[<-e];rfl) (h11:=by rw[<-e];rfl) (h20:=by rw[<-e];rfl) (h81:=by rw[<-e];rfl) (h99:=by rw[<-e];rfl) (E1:=fr m) (E2:=fr n) (r:=crI h d) rfl rfl (X:=fr ((d.2.1:Rat)*m-(h.2.1:Rat)*n)) (Y:=fr ((h.1:Rat)*n-(d.1:Rat)*m)) rfl rfl O P (zdt (b.hb vA) (i.hb vA))
  (Bx (x:=(d.2.1:Rat)) (Bt (f E vA vA) (f o vA vA) vA vA)) (Bx (x:=(h.2.1:Rat)) (Bt (f C vA vA) (f q vA vA) vA vA)) (Bx (Bt (f H vA vA) (f I vA vA) vA vA))
  (Bx (x:=(h.1:Rat)) (Bt (f A vA vA) (f q vA vA) vA vA)) (Bx (x:=(d.1:Rat)) (Bt (f B vA vA) (f o vA vA) vA vA)) (Bx (Bt (f J vA vA) (f K vA vA) vA vA))
  (Bx (y:=((crI h d:Int):Rat)) ?_) (Bx (y:=((crI h d:Int):Rat)) ?_)
 ·rw[Bt S F vA vA,decide_eq_true G];rfl
 ·rw[Bt T F vA vA,decide_eq_true G];rfl
def zdp:∅:=run (tab [(98,zbh)]) zcc 2
def ok_meetings(e:Γ 98=zbh):∀d w,d.length=2->zdp d=some w->run Γ zcc 2 d=some w:=λd w _ h=>zbv [(98,zbh)] (λp f=>by
 simp only[Zh,Zr,or_false] at f;subst f;exact e) vA d w h
def ydz{d:∅}(e:Γ 98=d){L:List D}{T A B M:D}{k:Int}(f:lf M=true)(g:L2.atI L (k-1)=some A)(h:L2.atI L k=some B)(q:d [A,B,T]=some (.val M)):
  zne Γ (.call 98 #v[.ix (.var 2) (.bin .sub (.var 1) (.int 1)),.ix (.var 2) (.var 1),.var 3]) (.name 1) 2 [0,1] .non [some (.lst L),some T] (.int k)=some (some M):=by
 walk_at "evh"
def ylu{L R:List D}{T:D}(c:ev Γ (.comp (.call 98 #v[.ix (.var 2) (.bin .sub (.var 1) (.int 1)),.ix (.var 2) (.var 1),.var 3]) (.name 1) (.range1 (.bi .len #v[.var 0])) 2 [0,1] .non) [some (.lst L),some T]=some (.new R)):run Γ zcc 2 [.lst L,T]=some (.new R):=by
 unfold zcc;walk_at "evh"
def ew_len{L:List D}{T:D}{n:Nat}(d:(L.length:Int)=(n:Int))(f:n<=1000):evW Γ (.range1 (.bi .len #v[.var 0])) [some (.lst L),some T]=some (zal 0 n):=by
 have e:evd Γ (.bi .len #v[.var 0]) [some (.lst L),some T]=some (.int (n:Int)):=by walk_at "evh"
 rw[evW_range1,e,Z9,zzy,Z9,if_pos ⟨by omega,by omega⟩,Z8]
def rngD{n:Nat}:zal 0 n=(List.range n).map λ(k:Nat)=>D.int (k:Int):=by
 have:=zwz n
 rw[Z8] at this;rw[this];exact We λk _=>by rw[U3]
def zyc{e:∅}(d:Γ 98=e){f:Nat->D}{g:Nat->V}{n k:Nat}{T:D}(h:k<n)(q:e [f (pv n k),f k,T]=some (.val (stD (g k)))):
  zne Γ (.call 98 #v[.ix (.var 2) (.bin .sub (.var 1) (.int 1)),.ix (.var 2) (.var 1),.var 3]) (.name 1) 2 [0,1] .non [some (.lst ((List.range n).map f)),some T] (.int (k:Int))=some (some (stD (g k))):=by
 refine ydz d rfl (zik (zfw h) ?_) (zik h (.inl rfl)) q;unfold pv;split<;>omega
def ylw{e:∅}(d:Γ 98=e){f:Nat->D}{g:Nat->V}{n:Nat}{T:D}(l:n<=1000)(q:∀i,i<n->e [f (pv n i),f i,T]=some (.val (stD (g i)))):run Γ zcc 2 [.lst ((List.range n).map f),T]=some (.new ((List.range n).map λk=>stD (g k))):=by
 refine ylu ?_;have m:((List.range n).map λ(k:Nat)=>D.int (k:Int)).length<=PySem.sizeLine:=by
  have:(1000:Nat)<=PySem.sizeLine:=by decide
  rw[Zc,Z6];omega
 rw[zje,ew_len (n:=n) (by rw[Zc,Z6]) l,rngD,Z9,if_pos ⟨m,rfl⟩,zfk (h:=λk=>stD (g k)) (λk j=>zyc d (Wj.mp j) (q k (Wj.mp j)))];rfl
def ylv{f:Nat->D}{g:Nat->V}{n:Nat}{T:D}(d:n<=1000)(q:∀i,i<n->zbh [f (pv n i),f i,T]=some (.val (stD (g i)))):zdp [.lst ((List.range n).map f),T]=some (.new (((List.range n).map g).map stD)):=by
 rw[Ya];exact ylw yjh d q
end
open Sf
open Mg Fi PySem
section
variable{Γ:Nat->∅}
def yde{d e:D}{f:Option D}{g:List (Addr×List D)}:rhoB (rF d e f 1) 2 g=[some d,some e,some (.lst (dOs g)),f,none]:=rfl
def zxe{d:∅}(e:Γ 95=d){f g:D}{i:Option D}{L:List D}{k:D}(h:d [.lst L]=some (.val k)):ev Γ o_pushes.1 [some f,some g,some (.lst L),i,none]=some (.val k):=by
 unfold o_pushes;dsimp only;walk_at "evh"
def ykp{e:∅}(f:Γ 21=e){g i:D}{k:Int}{L:List D}{A:Addr}{P S X C:D}{b:Bool}(a:L2.atI L k=some (.obj A [P,S,X,C]))(h:e [C,.tup [.int 1,.int 1]]=some (.val (.bl b))):((ev Γ o_pushes.2.1 [some g,some i,some (.lst L),some (.int k),none]).map W.d).bind zax=some b:=by
 unfold o_pushes;dsimp only;walk_at "evh"
def ykq{e:∅}(f:Γ 96=e){g i:D}{k:Int}{L:List D}{b:Bool}(h:e [.lst L,.int k]=some (.val (.bl b))):((ev Γ o_pushes.2.2.1 [some g,some i,some (.lst L),some (.int k),none]).map W.d).bind zax=some b:=by
 unfold o_pushes;dsimp only;walk_at "evh"
abbrev ynx:E:=(.comp (.var 2) (.tup [1,2]) (.enum (.var 4)) 3 [4] (.som (.cmp .notin (.var 2) (.sl (.var 3) .non (.som (.var 1))))))
def zxd{d:∅}(e:Γ 100=d){f g:D}{L R O:List D}{k:Int}(q:d [.lst L,.tup [.int 1,.int 1]]=some (.new R))(h:lfL R=true)(c:ev Γ ynx [some f,some g,some (.lst L),some (.int k),some (.lst R)]=some (.new O)):
  exs Γ o_pushes.2.2.2 [~~~f,~~~g,~~~.lst L,~~~.int k,none]=some (.rt (.new O)):=by
 unfold ynx at c;unfold o_pushes;dsimp only;walk_at "evh"
def ddL(l:List V):List V:=(l.zipIdx.filter λp=>decide (p.1∉l.take p.2)).map (·.1)
def ydw(q:V)(l:List V):cmpD .notin (stD q) (.lst (l.map stD))=some (decide (q∉l)):=by
 rw[yig,if_pos (by rw[zor l];rfl)];congr 1
 rw[List.any_map];by_cases h:q∈l
 ·rw[decide_eq_false (λz=>z h)];have:l.any ((λy=>eqD y (stD q)) ∘ stD)=true:=Bf.mpr ⟨q,h,zme 50 _ rfl⟩
  rw[this];rfl
 ·rw[decide_eq_true h];have:l.any ((λy=>eqD y (stD q)) ∘ stD)=false:=by
   rw[Jl];intro z;obtain⟨y,d,e⟩:=Bf.mp z
   exact h (ygu e ▸ d)
  rw[this];rfl
theorem zos{d:Type}{f:D->Option (Option D)}{g h:d->D}{p:d->Bool}:∀{l:List d},(∀x∈l,f (g x)=some (if p x=true then some (h x) else none))->zca f (l.map g)=some ((l.filter p).map h)
 |[],_=>rfl
 |x::l,e=>by
  rw[Zx];unfold zca;rw[e x (.head _),zos λy i=>e y (.tail _ i)];by_cases q:p x=true
  ·rw[if_pos q,List.filter_cons_of_pos q];rfl
  ·rw[if_neg q,List.filter_cons_of_neg q]
def ynr{d e f g:Option D}{L:List D}{S:D}{i:Int}{C:List D}{b:Bool}(h:lf S=true)(ct:cutD L none (some i)=C)(j:cmpD .notin S (.lst C)=some b):
  zne Γ (.var 2) (.tup [1,2]) 3 [4] (.som (.cmp .notin (.var 2) (.sl (.var 3) .non (.som (.var 1))))) [d,e,f,g,some (.lst L)] (.tup [.int i,S])=some (if b=true then some S else none):=by
 cases b
 ·walk_at "evh"
 ·walk_at "evh"
def dd_int{d f g j:Option D}{l:List V}(r:l.length<=1000):ev Γ ynx [d,f,g,j,some (.lst (l.map stD))]=some (.new ((ddL l).map stD)):=by
 have e:evW Γ (.enum (.var 4)) [d,f,g,j,some (.lst (l.map stD))]=some (l.zipIdx.map λp=>D.tup [.int (p.2:Int),stD p.1]):=by
  have:evW Γ (.enum (.var 4)) [d,f,g,j,some (.lst (l.map stD))]=some (zdk (l.map stD)):=by simp only[evW,ev];rfl
  rw[this];unfold zdk;rw[List.zipIdx_map,Ya];rfl
 have n:(l.zipIdx.map λp=>D.tup [.int (p.2:Int),stD p.1]).length<=PySem.sizeLine:=by
  have:(1000:Nat)<=PySem.sizeLine:=by decide
  rw[Zc,Kn];omega
 rw[zje,e,Z9,if_pos ⟨n,rfl⟩,zos (p:=λp=>decide (p.1∉l.take p.2)) (h:=λp=>stD p.1) (λp o=>?_)]
 ·unfold ddL;rw[Ya];rfl
 ·have m:p.2<=(l.map stD).length:=by
   obtain⟨i,m,e⟩:=Ki o
   rw[Kn] at m;rw[<-e,List.getElem_zipIdx,Zc];simp only
   omega
  have q:cutD (l.map stD) none (some (p.2:Int))=(l.take p.2).map stD:=by
   rw[cutTo m,Vy]
  exact ynr rfl q (ydw _ _)
section
variable{A:Nat->Addr}{h:Nat->H3}{x:Nat->Rat}{N n:Nat}{J:Nat->Nat}
theorem znp(w:Γ 95=zau)(B:Γ 96=ziy)(C:Γ 21=zbb)(q:∀i,Hb (h i))(u:∀i,Sz 2000 (x i)){v R:V}(S:v≠R)(U:∀j,j<N->x j<=xr (wy (h j)) v)(E:∀j,j<N->x j<=xr (wy (h j)) R){d0 d1:D}:∀(m n:Nat) (J:Nat->Nat) (t:Rat),n<=m->n<=1000->Lst h x N n J t->(∀i j,i<n->j<n->A (J i)=A (J j)->i=j) ->
  ∃(g:Nat->List (Addr×List D)) (r:Nat->Int) (T:Nat),g 0=osJ A h x n J/\r 0=(((ear (clJ h x n J) n).getD 0:Nat):Int)/\Lps Γ Tht d0 d1 1 o_pushes.1 g r T/\(∀j,j<=T->((ev Γ o_pushes.2.1 (rhoB (rF d0 d1 (some (.int (r j))) 1) 2 (g j))).map W.d).bind zax=some (decide (j<T) || (finP h x m n J).1)) /\
   (∀j,j<=T->(j<T\/(finP h x m n J).1=true)->((ev Γ o_pushes.2.2.1 (rhoB (rF d0 d1 (some (.int (r j))) 1) 2 (g j))).map W.d).bind zax=some (!decide (j<T))) /\
   g T=osJ A h x (finP h x m n J).2.1 (finP h x m n J).2.2.1/\r T=((finP h x m n J).2.2.2:Int)
 |0,n,J,t,hm,K,L,inj=>by have:=L.ok.three;omega
 |m+1,n,J,t,hm,K,L,inj=>by
  obtain⟨k,p,X⟩:=L.next S U E
  have n3:=L.ok.three;obtain⟨z1,z2⟩:=zte (q _) (q _) (q _) (u _) (u _) (u _) X.cl
  have M:∀o,ev Γ o_pushes.1 (rhoB (rF d0 d1 o 1) 2 (osJ A h x n J))=some (.val (.int (k:Int))):=λo=>by
   have:=zsw (A:=A) (J:=J) q u K
   rw[X.ear] at this;rw[yde];exact zxe w this
  have O:L2.atI (dOs (osJ A h x n J)) (k:Int)=some (.obj (A (J k)) [.int (J k:Int),hD (h (J k)),fr (x (J k)),.tup [.int p.1,.int p.2]]):=by
   unfold osJ;rw[znw,zik (f:=λi=>bD (A (J i)) (J i:Int) (h (J i)) (x (J i)) (clD (clJ h x n J i))) X.lt (.inl rfl),X.cl];rfl
  have Y:=zkq (a:=p.1) (b:=p.2) (c:=1) (d:=1) (Br z1 (show(1:Int).natAbs<2^1 by decide) vA vA) (Br (show(1:Int).natAbs<2^1 by decide) z2 vA vA);rw[Uj,Jq] at Y;have F:((ev Γ o_pushes.2.1 (rhoB (rF d0 d1 (some (.int (k:Int))) 1) 2 (osJ A h x n J))).map W.d).bind zax=some (decide (p.1<p.2)):=by
   rw[yde];exact ykp C O Y
  have ee:((ev Γ o_pushes.2.2.1 (rhoB (rF d0 d1 (some (.int (k:Int))) 1) 2 (osJ A h x n J))).map W.d).bind zax=some (decide (0<=crI (h (J (nx n k))) (h (J (pv n k))))):=by
   rw[yde];exact ykq B (zzo (A:=A) (J:=J) (x:=x) q X.lt vB)
  unfold finP;simp only[X.ear,X.cl,Q9];by_cases H:p.1<p.2
  ·rw[if_pos H];rw[decide_eq_true H] at F;by_cases I:0<=crI (h (J (nx n k))) (h (J (pv n k)))
   ·rw[if_pos I];rw[decide_eq_true I] at ee;refine⟨λ_=>osJ A h x n J,λ_=>(k:Int),0,rfl,rfl,⟨λ_ _ o=>M o,λj l=>by omega,λj l=>by omega⟩,λj l=>?_,λj l _=>?_,rfl,rfl⟩
    ·have:j=0:=by omega
     subst this;exact F
    ·have:j=0:=by omega
     subst this;exact ee
   ·rw[if_neg I];rw[decide_eq_false I] at ee;obtain⟨L2,n4⟩:=X.drop L vB
    have G:∀i j,i<n-1->j<n-1->A (J (er k i))=A (J (er k j))->i=j:=λi j P l e=>by
     have:=inj _ _ (zdj X.lt P) (zdj X.lt l) e
     unfold er at this;split at this<;>split at this<;>omega
    obtain⟨g,r,T,Z,k0,lp,ts,es,oT,kT⟩:=znp w B C q u S U E (d0:=d0) (d1:=d1) m (n-1) (λi=>J (er k i)) _ vB vB L2 G
    refine⟨λj=>match j with|0=>osJ A h x n J|j+1=>g j,λj=>match j with|0=>(k:Int)|j+1=>r j,T+1,rfl,rfl,⟨λj l o=>?_,λj l=>?_,λj l a s=>?_⟩,λj l=>?_,λj l Q=>?_,oT,kT⟩
    ·cases j with
     |zero=>exact M o
     |succ j=>exact lp.ke j vB o
    ·cases j with
     |zero=>
      show Tht (osJ A h x n J) (k:Int) (g 0);rw[Z];exact⟨A,h,x,n,J,k,q,u,n3,K,X.lt,inj,rfl,rfl,rfl⟩
     |succ j=>exact lp.th j vB
    ·cases j with
     |zero=>
      have s:a∈(g 0).map (·.1):=s;show a∈(osJ A h x n J).map (·.1);rw[Z] at s;unfold osJ osC at s;rw[Ya] at s;obtain⟨i,P,e⟩:=Zq.mp s
      rw[<-e];exact zit (zdj X.lt (Wj.mp P))
     |succ j=>exact lp.sb j vB a s
    ·cases j with
     |zero=>rw[decide_eq_true (K0 T),Bool.true_or];exact F
     |succ j=>
      have:=ts j vB
      rw[show decide (j+1<T+1)=decide (j<T) from decide_eq_decide.mpr vB];exact this
    ·cases j with
     |zero=>rw[decide_eq_true (K0 T)];exact ee
     |succ j=>
      have:=es j vB (Q.imp (λz=>by omega) id)
      rw[show decide (j+1<T+1)=decide (j<T) from decide_eq_decide.mpr vB];exact this
  ·rw[if_neg H];rw[decide_eq_false H] at F;refine⟨λ_=>osJ A h x n J,λ_=>(k:Int),0,rfl,rfl,⟨λ_ _ o=>M o,λj l=>by omega,λj l=>by omega⟩,λj l=>?_,λj l Q=>?_,rfl,rfl⟩
   ·have:j=0:=by omega
    subst this;exact F
   ·rcases Q with z|z
    ·omega
    ·cases z
end
end
open Sf
open Mg Fi PySem
section
variable{Γ:Nat->∅}
def puE(l r:List V):Bool×Nat×(Nat->Nat)×Nat:=finP (hS l) (xS l r) l.length l.length λi=>i
def puM(l r:List V)(n:Nat)(J:Nat->Nat)(i:Nat):V:=Fi.mt (wy (hS l (J (pv n i)))) (wy (hS l (J i))) (((hS l (J (pv n i))).2.2:Rat)-1*xS l r (J (pv n i))) (((hS l (J i)).2.2:Rat)-1*xS l r (J i))
def puL(l r:List V):List V:=if (puE l r).1=true then [] else ddL ((List.range (puE l r).2.1).map (puM l r (puE l r).2.1 (puE l r).2.2.1))
def zxf{l r:List V}(T:Bd2 l r):PuS (hS l) (xS l r) l.length (puE l r).1 (puE l r).2.1 (puE l r).2.2.1 (puE l r).2.2.2:=by
 have e:=T.hr.three;have d:0<r.length:=by omega
 exact zzk (zfa (nodup T.hr) vB 0) (λj _=>(zcu d _).1 _ (Bz d _)) (λj _=>(zcu d _).1 _ (Bz d _)) _ _ _ _ (Zl _) vA (zkm T.hl _)
def ydj(m:Γ 95=zau)(B:Γ 96=ziy)(C:Γ 21=zbb)(o:Γ 100=zdp){l r:List V}(T:Bd2 l r):
  zmw Γ Xi Tht 1 o_pushes.1 o_pushes.2.1 o_pushes.2.2.1 o_pushes.2.2.2 (.lst (l.map stD)) (.lst (r.map stD)) (.new ((puL l r).map stD)):=by
 have Y:=T.fl;have E:=T.hl.three;have Z:=T.hr.three;have p:0<r.length:=by omega
 have s:∀d:List (Addr×List D),d.map (·.2)=lsS l r (λi=>clD (clJ (hS l) (xS l r) l.length (λi=>i) i))->(d.map (·.1)).Nodup->∃A:Nat->Addr,d=osJ A (hS l) (xS l r) l.length (λi=>i)/\∀i j,i<l.length->j<l.length->A i=A j->i=j:=λd e t=>by
  have I:(d.map (·.1)).length=l.length:=by
   have:=congrArg List.length e
   unfold lsS at this;rw[Zc,Zc,Z6] at this;rw[Zc];exact this
  obtain⟨K,_⟩:∃a,(d.map (·.1))[0]? = some a:=⟨(d.map (·.1))[0]'vB,Zg _⟩
  refine⟨λi=>(d.map (·.1)).getD i K,yle ?_ ?_,λi j v hj z=>zlx t vB vB z⟩
  ·unfold osJ osC;rw[Ya,<-I];exact rng_getD.symm
  ·rw[e];unfold osJ osC lsS;rw[Ya];rfl
 have w:∀q,q∈r->∀j,j<l.length->xS l r j<=xr (wy (hS l j)) q:=λq L j _=>(zcu p _).1 q L
 refine⟨_,(((ear (clJ (hS l) (xS l r) l.length λi=>i) l.length).getD 0:Nat):Int),⟨l,r,T,rfl,rfl,rfl⟩,λd e t=>?_,λd e t=>?_⟩
 ·obtain⟨A,F,inj⟩:=s d e t
  subst F;have:=zsw (A:=A) (n:=l.length) (J:=λi=>i) T.hb T.sx vB
  obtain⟨k',p',X⟩:=(zkm T.hl (xS l r)).next (zfa (nodup T.hr) vB 0) (w _ (Bz p _)) (w _ (Bz p _))
  rw[X.ear] at this |-;rw[yde];exact zxe m this
 ·obtain⟨A,F,inj⟩:=s d e t
  subst F;obtain⟨G,M,N,O,P,lp,Q,R,S,U⟩:=znp (Γ:=Γ) (A:=A) (d0:=.lst (l.map stD)) (d1:=.lst (r.map stD)) m B C T.hb T.sx (zfa (nodup T.hr) vB 0) (w _ (Bz p _)) (w _ (Bz p _)) l.length l.length (λi=>i) 0 (Zl _) vB (zkm T.hl (xS l r)) inj
  refine⟨G,M,N,(puE l r).1,O,P,lp,Q,R,?_⟩
  have h:=zxf T;unfold puL;by_cases u:(puE l r).1=true
  ·rw[if_pos u,if_pos u];rfl
  ·rw[if_neg u,if_neg u];unfold PuS at h;rw[if_neg u] at h;rw[S,U];show exs Γ o_pushes.2.2.2 [~~~_,~~~_,~~~.lst (dOs (osJ A (hS l) (xS l r) (puE l r).2.1 (puE l r).2.2.1)),~~~.int _,none]=_;generalize (puE l r).2.1=n at *;generalize (puE l r).2.2.1=J at *;have n3:=h.ok.three;have nl:n<=60:=by
    have:∀i,i<n->i<=J i:=λi=>by
     induction i with
     |zero=>intro _;omega
     |succ i W=>intro v;have:=h.mono i (i+1) vB v;have:=W vB;omega
    have a:=this (n-1) vB;have b:=h.lt (n-1) vB;omega
   have H:=ylv (f:=λi=>bD (A (J i)) (J i:Int) (hS l (J i)) (xS l r (J i)) (clD (clJ (hS l) (xS l r) n J i))) (g:=puM l r n J) (n:=n) (T:=fr 1) vB (λi v=>zqd (T.hb _) (T.hb _) (T.sy _) (T.sy _) (by
    have:=h.ok.bendp v
    have this:0<xr (wy (hS l (J (pv n i)))) (wy (hS l (J i))):=this;rw[zeg,show(0:Rat)=((0:Int):Rat) from rfl,Z1] at this;omega))
   unfold osJ;rw[znw];exact zxd o H (zcf _) (dd_int (by rw[Zc,Z6];omega))
def PuAt(d:List D)(w:W):Prop:=∃l r,Bd2 l r/\d=[.lst (l.map stD),.lst (r.map stD)]/\w=.new ((puL l r).map stD)
open Classical in
def zcm(d:List D):Option W:=if h:∃w,PuAt d w then some h.choose else none
def ydk(g:Γ 95=zau)(i:Γ 96=ziy)(j:Γ 21=zbb)(d:Γ 100=zdp):∀m n o,zcm [m,n]=some o->zmw Γ Xi Tht 1 o_pushes.1 o_pushes.2.1 o_pushes.2.2.1 o_pushes.2.2.2 m n o:=λm n o h=>by
 unfold zcm at h;split at h
 ·next z=>
  obtain⟨l,r,T,e,q⟩:=z.choose_spec
  have f:=Z3 h;rw[q] at f;subst f;injection e with s p
  injection p with p _
  rw[s,p];exact ydj g i j d T
 ·cases h
def zrx{l r:List V}(T:Bd2 l r):zcm [.lst (l.map stD),.lst (r.map stD)]=some (.new ((puL l r).map stD)):=by
 have ex:∃w,PuAt [.lst (l.map stD),.lst (r.map stD)] w:=⟨_,l,r,T,rfl,rfl⟩;unfold zcm;rw[dif_pos ex];obtain⟨h,i,j,e,g⟩:=ex.choose_spec
 injection e with f d
 injection d with d _
 injection f with f
 injection d with d
 have:=zce f
 have:=zce d
 subst_vars
 rw[g]
def ykr{l r:List V}(T:Bd2 l r)(h:(puE l r).1=true):∀u,¬ ∀q∈r,InS l (sp 1 u q):=λu i=>by
 have f:=zxf T;unfold PuS at f;rw[if_pos h] at f;obtain⟨p,F,m⟩:=f
 obtain⟨S,_,C⟩:=yai F T.hb
 have:=C.max F.fac (P:=l) (λj d q g=>zdu T.hl g j d) (λj d=>yhq T.hl d) (s:=1) (u:=u) λj d=>by
  obtain⟨_,q,g,e⟩:=zcu T.pr (hS l j)
  have:=i q g j d
  rw[zpf] at this;show _<=1*lwS r (hS l j)+_;rw[e];exact this
 grind
def yks{l r:List V}(T:Bd2 l r)(h:(puE l r).1=false){i:Nat}(e:i<(puE l r).2.1):∀q∈r,InS l (sp 1 (puM l r (puE l r).2.1 (puE l r).2.2.1 i) q):=λq f j g=>by
 have d:=zxf T;unfold PuS at d;rw[if_neg (by rw[h];decide)] at d;have a:=d.back (puM l r (puE l r).2.1 (puE l r).2.2.1 i) (λk m=>d.ok.keeps i k e m) j g;have b:xS l r j<=xr (wy (hS l j)) q:=(zcu T.pr (hS l j)).1 q f;rw[zpf];grind
def dd_ne{l:List V}(h:l≠[]):ddL l≠[]:=by
 cases l with
 |nil=>exact absurd rfl h
 |cons a l=>
  unfold ddL;intro z;have:((a,0):V×Nat)∈((a::l).zipIdx.filter λp=>decide (p.1∉(a::l).take p.2)):=Vb.mpr ⟨by rw[Uz];exact .head _,by simp⟩
  rw[List.map_eq_nil_iff.mp z] at this;cases this
def pu_ne{l r:List V}(T:Bd2 l r)(h:(puE l r).1=false):puL l r≠[]:=by
 have d:=zxf T;unfold PuS at d;rw[if_neg (by rw[h];decide)] at d;have e:=d.ok.three;unfold puL;rw[if_neg (by rw[h];decide)];refine dd_ne λz=>?_;have:=congrArg List.length z
 rw[Zc,Z6] at this;simp only[Ko] at this;omega
def yha{l r:List V}(T:Bd2 l r):puL l r≠[] ↔ ∃u,∀q∈r,InS l (sp 1 u q):=by
 cases h:(puE l r).1 with
 |true=>
  constructor
  ·intro z;unfold puL at z;rw[if_pos h] at z;exact absurd rfl z
  ·rintro⟨u,e⟩
   exact absurd e (ykr T h u)
 |false=>
  have d:=zxf T;unfold PuS at d;rw[if_neg (by rw[h];decide)] at d;have f:=d.ok.three;exact⟨λ_=>⟨_,yks T h (i:=0) vB⟩,λ_=>pu_ne T h⟩
end
open Sf
open Mg Fi PySem
def ydl{s t:H3}{k:Rat}(h:gc (gc s.1 s.2.1) s.2.2=1)(i:0<k)(j:(t.1:Rat)=k*s.1)(l:(t.2.1:Rat)=k*s.2.1)(n:(t.2.2:Rat)=k*s.2.2):∃m:Int,m≠0/\t.1=m*s.1/\t.2.1=m*s.2.1/\t.2.2=m*s.2.2:=by
 have r:(0:Rat)<((k.den:Int):Rat):=zgj k;have o:=zoa k;have c:∀a b:Int,(b:Rat)=k*a->(k.den:Int)*b=k.num*a:=λa b e=>by
  have:(((k.den:Int)*b:Int):Rat)=((k.num*a:Int):Rat):=by
   rw[Z4,Z4,o,e];grind
  exact Rat.intCast_inj.mp this
 have d:=c _ _ j;have f:=c _ _ l;have g3:=c _ _ n;have g:Int.gcd (k.den:Int) k.num=1:=by
  rw[Gi];exact k.reduced
 have p:(k.den:Int)∣1:=by
  have:=dvd_g (zqs g ⟨t.1,d.symm⟩) (zqs g ⟨t.2.1,f.symm⟩) (zqs g ⟨t.2.2,g3.symm⟩)
  rw[h] at this;exact this
 have q:(k.den:Int)=1:=Int.eq_one_of_dvd_one (Yn _) p;rw[q,Jq] at d f g3;have u:=numP i;exact⟨k.num,by omega,d,f,g3⟩
def zyb{m s:Int}(h:m≠0):s.natAbs<=(m*s).natAbs:=by
 rw[Z5];exact Nat.le_mul_of_pos_left _ vB
def divI{x d:Int}:Rat.divInt x d=(x:Rat)*(d:Rat)⁻¹:=by rw[Y3,Yz]
def yjo{s e:V}{d:Int}(H:d≠0)(C:d.natAbs<2^7)(I:s≠e)(J:Ov d 72 s)(K:Ov d 72 e):Hb (zeh s e):=by
 obtain⟨g,h,q,r,u,v⟩:=J.ex
 obtain⟨i,j,w,A,D,E⟩:=K.ex
 have L:=zym (c:=(s.2-e.2)*s.1+(e.1-s.1)*s.2) (zlq I);obtain⟨k,M,l,n,o⟩:=L.scale
 have l:((zeh s e).1:Rat)=k*(s.2-e.2):=l;have n:((zeh s e).2.1:Rat)=k*(e.1-s.1):=n;have o:((zeh s e).2.2:Rat)=k*((s.2-e.2)*s.1+(e.1-s.1)*s.2):=o;have N:(d:Rat)≠0:=λz=>H (Y9.mp z)
 have O:=Y6 (d:Rat) N;have P:=Y6 k (by grind);have Q:=Kj.mpr M;have R:0<(d:Rat)*(d:Rat):=by
  rcases(show(d:Rat)<0\/0<(d:Rat) by grind) with z|z
  ·have:=Zz (show 0 < -(d:Rat) by grind) (show 0 < -(d:Rat) by grind)
   grind
  ·exact Zz z z
 rw[divI] at q r w A;rw[r,A] at l;rw[q,w] at n;rw[q,r,w,A] at o;obtain⟨m,B,F,G,t3⟩:=ydl (s:=zeh s e) (t:=(d*(h-j),d*(i-g),(h-j)*g+(i-g)*h)) (k:=(d:Rat)*(d:Rat)*k⁻¹) L.co (Zz R Q) (by
   show((d*(h-j):Int):Rat)=_;rw[l,Z4,Ww];generalize k⁻¹=p at *;generalize (d:Rat)⁻¹=f at *;grind) (by
   show((d*(i-g):Int):Rat)=_;rw[n,Z4,Ww];generalize k⁻¹=p at *;generalize (d:Rat)⁻¹=f at *;grind) (by
   show(((h-j)*g+(i-g)*h:Int):Rat)=_;rw[o];simp only[Kr,Z4,Ww];generalize k⁻¹=p at *;generalize (d:Rat)⁻¹=f at *;have:(d:Rat)*(d:Rat)*p*(k*(((h:Rat)*f-(j:Rat)*f)*((g:Rat)*f)+((i:Rat)*f-(g:Rat)*f)*((h:Rat)*f)))=(k*p)*(((d:Rat)*f)*((d:Rat)*f))*(((h:Rat)-j)*g+((i:Rat)-g)*h):=by grind
   rw[this,P,O];grind)
 simp only at F G t3
 refine⟨Ye (zyb B) ?_,Ye (zyb B) ?_,Ye (zyb B) ?_⟩
 ·rw[<-F];exact zbx C (znn v E) vA
 ·rw[<-G];exact zbx C (znn D u) vA
 ·rw[<-t3];exact Ze (zxb (k:=145) (zbx (znn v E) u vA) (zbx (znn D u) v vA)) (Bn vA)
structure K5(l:List V):Prop where
 shp:IsShp l
 few:l.length<=30
 ov:∃d:Int,d≠0/\d.natAbs<2^7/\∀q∈l,Ov d 72 q
def K5.sy{l:List V}(h:K5 l):SyL 72 7 l:=λq g=>by
 obtain⟨d,e,f,i⟩:=h.ov
 obtain⟨x,y,j,m,n,o⟩:=(i q g).ex
 exact⟨by rw[j];exact zid e n f,by rw[m];exact zid e o f⟩
def K5.zl{l:List V}(h:K5 l):SzL 165 l:=h.sy.sz vA vA
def K5.hb{l:List V}(h:K5 l)(i:Nat):Hb (hS l i):=by
 obtain⟨d,g,j,f⟩:=h.ov
 have e:=h.shp.three;exact yjo g j (zfa (nodup h.shp) vB i) (f _ (Bz vB _)) (f _ (Bz vB _))
def K5.two{l r:List V}(a:K5 l)(b:K5 r):TwoS l r:=
 TwoS.mk' a.shp b.shp a.zl a.hb (λq d=>⟨(b.sy q d).1.mono vA vA,(b.sy q d).2.mono vA vA⟩) (by have:=a.few;omega) (by have:=b.few;omega)
def K5.kx{l:List V}(h:K5 l):Kx l:=by
 obtain⟨d,e,f,g⟩:=h.ov
 refine⟨h.shp,h.zl,by have:=h.few;omega,d,e,Ze f (Bn vA),λq i=>?_⟩
 obtain⟨x,y,j,m,n,o⟩:=(g q i).ex
 exact⟨⟨x,y,j,m,Ze n (Bn vA),Ze o (Bn vA)⟩⟩
def Sh5.k5{l:List V}(h:Sh5 l):K5 l:=by
 obtain⟨s,d,e,f⟩:=h.ov
 refine⟨h.shp,h.few,s,d,Ze e (Bn vA),λq g=>?_⟩
 obtain⟨x,y,i,j,m,n⟩:=(f q g).ex
 exact⟨⟨x,y,i,j,Ze m (Bn vA),Ze n (Bn vA)⟩⟩
def div1(i:Int):(i:Rat)=Rat.divInt i 1:=by rw[Y3,Yz];show(i:Rat)=(i:Rat)*(1:Rat)⁻¹;grind
def Sh5.moved{l:List V}(h:Sh5 l){f:Rat}(d:Sy 4 4 f)(j:0<f){a b:Int}(o:a.natAbs<2^7)(p:b.natAbs<2^7):K5 ((l.map (sc f)).map (pl ((a:Rat),(b:Rat)))):=by
 obtain⟨s,i,sb,r⟩:=h.ov
 refine⟨IsShp.pushed (IsShp.sized h.shp j) _,by rw[Zc,Zc];exact h.few,1*(s*(f.den:Int)),Yf vA (Yf i (yic f)),?_,λq t=>?_⟩
 ·rw[Jq];exact zbx sb (show((f.den:Nat):Int).natAbs<2^4 from d.b) vA
 ·obtain⟨w,u,e⟩:=Zq.mp t
  obtain⟨v,g,z⟩:=Zq.mp u
  rw[<-e,<-z];exact Ov.pl (B:=7) (C:=66) (m:=1) (n:=7) ⟨⟨a,b,div1 _,div1 _,o,p⟩⟩ ((r v g).sc d (k:=66) vA) vA (Yf i (yic f)) vA (zbx sb (show((f.den:Nat):Int).natAbs<2^4 from d.b) vA) vA vA
def FitIs.comp{l r z:List V}(e:TwoS l r)(f:TwoS r z)(h:TwoS l z){t s w:Rat}{u v x:V}{S i d:List (Int×Int)}(g:FitIs l r t u S)(j:FitIs r z s v i)(m:FitIs l z w x d):t*s<=w:=
 m.max h (zyv f.hl (Zu (fitv e g).1) (g.keep e) (j.keep f))
def al_of{l r:List V}(g:IsShp l)(h:IsShp r){t:Rat}{u:V}(n:0<t)(e:l=(r.map (sc t)).map (pl u)):(r.map (sc (alF l r))).map (pl (alP l r))=l:=by
 have o:l.length=r.length:=by rw[e,Zc,Zc]
 have p:=g.three;have d:∀i,i<l.length->at0 l i=pl u (sc t (at0 r i)):=λi q=>by
  have:at0 l i=at0 ((r.map (sc t)).map (pl u)) i:=by rw[<-e]
  rw[this,yil (by rw[Zc];omega),yil vB]
 have s:=zmy h;have j:wd l=wd r*t:=by
  unfold wd;rw[d 1 vB,d 0 vB];unfold pl sc;grind
 have f:alF l r=t:=by
  unfold alF;rw[j,Yz];have:=Y6 (wd r) (by grind)
  generalize (wd r)⁻¹=K at *;grind
 have m:alP l r=u:=by
  unfold alP;rw[f,d 0 vB];unfold mn pl sc;exact Ys (by dsimp only;grind) (by dsimp only;grind)
 rw[f,m];exact e.symm
def yft{l r:List V}(d:TwoS l r)(g:TwoS r l){t s:Rat}{u v:V}{S A:List (Int×Int)}(i:FitIs l r t u S)(j:FitIs r l s v A):t*s<=1/\(t*s=1↔(r.map (sc (alF l r))).map (pl (alP l r))=l):=by
 have w:=(fitv d i).1;have B:=(fitv g j).1;obtain⟨a,b⟩:=to_fro d.hl d.hr w (i.keep d) (j.keep g)
 refine⟨a,λe=>al_of d.hl d.hr w (b e),λe=>?_⟩
 have z:=ybk d.hl d.hr;generalize alF l r=f at *;generalize alP l r=p at *;have G:=Y6 f (by grind);have H:=Kj.mpr z;have m:∀q:V,pl p (sc f q)=sp f p q:=λq=>by unfold pl sc sp;exact Ys (by dsimp only;grind) (by dsimp only;grind)
 have I:f<=t:=i.max d (u:=p) λq h=>by
  refine zdu d.hl ?_;rw[<-e,<-m];exact Zq.mpr ⟨_,Zq.mpr ⟨q,h,rfl⟩,rfl⟩
 have K:f⁻¹<=s:=j.max g (u:=(-(f⁻¹*p.1),-(f⁻¹*p.2))) λq h=>by
  rw[<-e] at h;obtain⟨L,n,C⟩:=Zq.mp h
  obtain⟨D,o,E⟩:=Zq.mp n
  have F:sp f⁻¹ (-(f⁻¹*p.1),-(f⁻¹*p.2)) q=D:=by
   rw[<-C,<-E];generalize f⁻¹=J at *;unfold sp pl sc;exact Ys (by dsimp only;grind) (by dsimp only;grind)
  rw[F];exact zdu g.hl o
 generalize f⁻¹=J at *;have M:=Zp (show 0<=t-f by grind) (Zu B);have N:=Zp (Zu z) (show 0<=s-J by grind);grind
def yfb{l r:List V}(T:TwoS l r){t:Rat}{u:V}{S:List (Int×Int)}(I:FitIs l r t u S):t*t*Ar r<=Ar l:=by
 have g:=(fitv T I).1;have h:=I.keep T;have o:=T.hr.three;have d:∀q:V,pl u (sc t q)=sp t u q:=λq=>by unfold pl sc sp;exact Ys (by dsimp only;grind) (by dsimp only;grind)
 have:=yoz T.hl (IsShp.pushed (IsShp.sized T.hr g) u) (λq i=>by
  obtain⟨p,e,j⟩:=Zq.mp i
  obtain⟨m,f,n⟩:=Zq.mp e
  rw[<-j,<-n,d];exact h m f)
 rw[yoy (by rw[Zc];omega),yox vB] at this;exact this
def sp_sc{s:Rat}{u q:V}:sp 1 u (sc s q)=sp s u q:=by unfold sp sc;exact Ys (by dsimp only;grind) (by dsimp only;grind)
def yhb{l r:List V}(T:TwoS l r){t:Rat}{u:V}{S:List (Int×Int)}(I:FitIs l r t u S){s:Rat}(B:Bd2 l (r.map (sc s))):(s<=t->0<=s->s=t->puL l (r.map (sc s))≠[])/\(t<s->puL l (r.map (sc s))=[]):=by
 refine⟨λ_ _ e=>?_,λh=>?_⟩
 ·subst e;refine(yha B).mpr ⟨u,λq d=>?_⟩;obtain⟨a,f,e⟩:=Zq.mp d
  rw[<-e,sp_sc];exact I.keep T a f
 ·refine Wa λz=>?_;obtain⟨w,g⟩:=(yha B).mp z
  have:=I.max T (s:=s) (u:=w) λq d=>by
   rw[<-sp_sc];exact g _ (Zq.mpr ⟨q,d,rfl⟩)
  grind
open Sf
open Mg Fi PySem
section
variable{Γ:Nat->∅}
def zbi:∅:=run (tab [(103,zct)]) zag 2
def ok_law_timesR(d:Γ 103=zct):∀e w,e.length=2->zbi e=some w->run Γ zag 2 e=some w:=λe w _ h=>zbv [(103,zct)] (λp f=>by
 simp only[Zh,Zr,or_false] at f;subst f;exact d) vA e w h
def ltRR{x y:Rat}{m n:Nat}(d:Sz m x)(e:Sz n y)(f:m<=4400)(g:n<=4400):zbi [fr x,fr y]=some (.val (fr (x*y))):=zny (Γ:=tab [(103,zct)]) yjh _ _ rfl (lt_mul d e f g)
def ymf{φ:∅}(e:Γ 103=φ){a b c d:Int}{R:D}(o1:Bw a c=true)(o2:Bw b d=true)(q:φ [.int (a*c),.int (b*d)]=some (.val R)):run Γ zag 2 [.tup [.int a,.int b],.tup [.int c,.int d]]=some (.val R):=by
 unfold zag;walk_at "evh"
def ltP{x:Rat}{c d:Int}(f:Sz 420 x)(h:c.natAbs<2^40)(g:d.natAbs<2^40)(i:0<d):zbi [fr x,.tup [.int c,.int d]]=some (.val (fr (x*Rat.divInt c d))):=by
 have j:(0:Int)<(x.den:Int):=J1.mpr x.den_pos;have q:=zix (t:=x.num*c) (b:=(x.den:Int)*d) (Ws j i) (Ze (zbx (denb f) g (k:=460) vA) (Bn vA));have e:Rat.divInt (x.num*c) ((x.den:Int)*d)=x*Rat.divInt c d:=by
  conv=>rhs;lhs;rw[zwy x]
  rw[Wf]
 rw[e] at q;exact ymf (Γ:=tab [(103,zct)]) (φ:=zct) yjh (Br f.t h vA vA) (Br (denb f) g vA vA) q
abbrev zil:Ss:=#v[.asg 6 (.ix (.call 125 #v[.var 2,.var 3]) (.int 0)),.asg 7 (.ix (.call 125 #v[.var 3,.var 2]) (.int 0)),.iff (.call 110 #v[.ix (.call 125 #v[.var 2,.var 4]) (.int 0),.call 74 #v[.var 6,.ix (.call 125 #v[.var 3,.var 4]) (.int 0)]]) #v[.ret (.bl false)] .nil,.asg 8 (.call 74 #v[.var 6,.var 7]),.iff (.or (.call 110 #v[.tup #v[.int 1,.int 1],.var 8]) (.cmp .ne (.cmp .eq (.var 8) (.tup #v[.int 1,.int 1])) (.cmp .notN (.call 132 #v[.var 2,.var 3]) .non))) #v[.ret (.bl false)] .nil,.iff (.call 110 #v[.call 58 #v[.var 2],.call 74 #v[.call 74 #v[.var 6,.var 6],.call 58 #v[.var 3]]]) #v[.ret (.bl false)] .nil,.asg 9 (.call 74 #v[.var 6,.tup #v[.bin .add (.bin .add (.bin .pow (.int 10) (.int 9)) (.int 1)) (.bin .mod (.ix (.var 1) (.int 25)) (.int 100)),.bin .pow (.int 10) (.int 9)]]),.ret (.and (.cmp .ne (.call 101 #v[.var 2,.call 68 #v[.var 3,.var 6]]) (.lst .nil)) (.cmp .eq (.call 101 #v[.var 2,.call 68 #v[.var 3,.var 9]]) (.lst .nil)))]
def yep(j:Γ 125=mFit)(m:Γ 110=zdq)(w:Γ 74=zbi)(n:Γ 132=zgm)(z:Γ 58=zbl)(C:Γ 68=zbo)(o:Γ 101=zcm){E d e f h F G H I J K N P A B i p q r s M:D}{t L O Z Q R S T u R2 v:List D}{g:Int}{b:Bool}{U:Option DL.B}
 (V:lf d=true)(W:lf e=true)(lB:lf B=true)(lM:lf M=true)(X:mFit [.lst L,.lst O]=some (.val (.tup [d,F,.lst Q,J])))(Y:mFit [.lst O,.lst L]=some (.val (.tup [e,G,.lst R,K])))(a0:mFit [.lst L,.lst Z]=some (.val (.tup [f,H,.lst S,N])))(a1:mFit [.lst O,.lst Z]=some (.val (.tup [h,I,.lst T,P])))
 (t1:zbi [d,h]=some (.val A))(l1:zdq [f,A]=some (.val (.bl false)))(t2:zbi [d,e]=some (.val B))(l2:zdq [.tup [.int 1,.int 1],B]=some (.val (.bl false)))(e1:cmpD .eq B (.tup [.int 1,.int 1])=some b)(al:zgm [.lst L,.lst O]=some (.val i))(hA:(i=.non/\b=false)\/∃l,i=.tup l/\b=true)
 (d1:zbl [.lst L]=some (.val p))(d2:zbl [.lst O]=some (.val q))(t3:zbi [d,d]=some (.val r))(t4:zbi [r,q]=some (.val s))(l3:zdq [p,s]=some (.val (.bl false)))
 (a2:L2.atI t 25=some (.int g))(t5:zbi [d,.tup [.int (1000000001+g%100),.int 1000000000]]=some (.val M))(s1:zbo [.lst O,d]=some (.new u))(s2:zbo [.lst O,M]=some (.new R2))(p1:zcm [.lst L,.lst u]=some (.new v))(p2:zcm [.lst L,.lst R2]=some (.new []))(c1:cmpD .ne (.lst v) (.lst [])=some true)(c2:cmpD .eq (.lst []) (.lst [])=some true):
  exs Γ zil [~~~E,some (.ow t),some (.ow L),some (.ow O),some (.ow Z),U,none,none,none,none]=some (.rt (.val (.bl true))):=by
 have m1:g.fmod 100=g%100:=zap vA;unfold zil;rcases hA with⟨rfl,rfl⟩|⟨AT,rfl,rfl⟩
 ·walk_at "evh"
 ·walk_at "evh"
def l51_a(h:Γ 102=zbz)(j:Γ 47=zbk){g:D}{e i f L O Z:List D}{d:Int}{W:W}(p:zbz [g,.int 26]=some (.new e))(q:lfL e=true)(r:zbk [.lst e]=some (.new L))(s:lfL L=true)(t:cutD e (some 8) none=i)(u:zbk [.lst i]=some (.new O))(v:lfL O=true)(l:cutD e (some 16) none=f)(w:zbk [.lst f]=some (.new Z))(z:lfL Z=true)
 (m:L2.atI e 24=some (.int d))(c:decide (d%3=1)=false)(n:exs Γ zil [~~~g,some (.ow e),some (.ow L),some (.ow O),some (.ow Z),none,none,none,none,none]=some (.rt W)):run Γ zbe 10 [g]=some W:=by
 have A:d.fmod 3=d%3:=zap vA;unfold zbe;unfold zil at n;generalize o:Ss.cons (.asg 6 _) _=R at *;clear o;walk_at "evh"
def l51_b(j:Γ 102=zbz)(o:Γ 47=zbk)(l:Γ 103=zct)(p:Γ 66=zcn)(q:Γ 68=zbo){i X:D}{g m h L n G O Z:List D}{d e:Int}{W:W}(z:zbz [i,.int 26]=some (.new g))(A:lfL g=true)(B:zbk [.lst g]=some (.new L))(C:lfL L=true)(E:cutD g (some 8) none=m)(F:zbk [.lst m]=some (.new n))(H:lfL n=true)(r:cutD g (some 16) none=h)(I:zbk [.lst h]=some (.new Z))(J:lfL Z=true)
 (s:L2.atI g 24=some (.int d))(t:L2.atI g 25=some (.int e))(c:decide (d%3=1)=true)(f:zct [.int (1+e%9),.int (1+d%9)]=some (.val X))(K:zbo [.lst L,X]=some (.new G))(M:zcn [.lst G,.tup [.tup [.int (d%101),.int 1],.tup [.int (e%101),.int 1]]]=some (.new O))(u:lfL O=true)
 (v:exs Γ zil [~~~i,some (.ow g),some (.ow L),some (.ow O),some (.ow Z),~~~.tup [.tup [.int (d%101),.int 1],.tup [.int (e%101),.int 1]],none,none,none,none]=some (.rt W)):run Γ zbe 10 [i]=some W:=by
 have N:d.fmod 3=d%3:=zap vA;have P:d.fmod 101=d%101:=zap vA;have Q:e.fmod 101=e%101:=zap vA;have S:e.fmod 9=e%9:=zap vA;have T:d.fmod 9=d%9:=zap vA;unfold zbe;unfold zil at v;generalize w:Ss.cons (.asg 6 _) _=R at *;clear w;walk_at "evh"
end
open Sf
open Mg Fi PySem
section
variable{Γ:Nat->∅}
def bd_sized{l r:List V}(a:K5 l)(b:K5 r){s:Rat}(f:0<s)(e:Sz 500 s):Bd2 l (r.map (sc s)):=
 ⟨a.shp,IsShp.sized b.shp f,a.zl,a.hb,λq g=>by
  have:=b.sy.size (x:=s) (c:=500) (d:=500) ⟨e.t,e.b⟩ q g
  exact⟨this.1.mono vA vA,this.2.mono vA vA⟩,by have:=a.few;omega,by rw[Zc];have:=b.few;omega⟩
def zyq(A:Γ 125=mFit)(C:Γ 110=zdq)(Q:Γ 74=zbi)(E:Γ 132=zgm)(R:Γ 58=zbl)(S:Γ 68=zbo)(F:Γ 101=zcm){l r z:List V}(s:K5 l)(o:K5 r)(kz:K5 z){NS:D}{HS:List D}{g:Int}(T:L2.atI HS 25=some (.int g))(x5:Option DL.B):
  exs Γ zil [~~~NS,some (.ow HS),some (.ow (l.map stD)),some (.ow (r.map stD)),some (.ow (z.map stD)),x5,none,none,none,none]=some (.rt (.val (.bl true))):=by
 have i:=s.two o;have t:=o.two s;have u:=s.two kz;have v:=o.two kz;obtain⟨f,a1,a2,j,U⟩:=zmc i
 obtain⟨w,a3,a4,G,W⟩:=zmc t
 obtain⟨H,a5,a6,I,X⟩:=zmc u
 obtain⟨J,a7,a8,L,Y⟩:=zmc v
 obtain⟨p,h,_⟩:=fitv i j
 obtain⟨a9,M,_⟩:=fitv t G
 obtain⟨aa,Z,_⟩:=fitv u I
 obtain⟨ab,O,_⟩:=fitv v L
 have one:Sz 1 (1:Rat):=⟨by decide,by decide⟩;have l1:zdq [fr H,fr (f*J)]=some (.val (.bl (decide (H<f*J)))):=Bx (Bt Z (h.mul O) vA vA);rw[decide_eq_false (Vw.mpr (j.comp i v u L I))] at l1;obtain⟨b1,b2⟩:=yft i t j G
 have l2:zdq [fr 1,fr (f*w)]=some (.val (.bl (decide (1<f*w)))):=Bx (Bt one (h.mul M) vA vA);rw[decide_eq_false (Vw.mpr b1)] at l2;obtain⟨d1,y1⟩:=yhn s.kx
 obtain⟨d2,y2⟩:=yhn o.kx
 have l3:zdq [fr (Ar l),fr (f*f*Ar r)]=some (.val (.bl (decide (Ar l<f*f*Ar r)))):=Bx (Bt y1 ((h.mul h).mul y2) vA vA);rw[decide_eq_false (Vw.mpr (yfb i j))] at l3;have al:=ybj s.shp o.shp s.zl o.zl (by have:=o.few;omega);have gb:(1000000001+g%100).natAbs<2^40:=by
  have:(2:Nat)^40=1099511627776:=by decide
  rw[this];omega
 have t5:=ltP (c:=1000000001+g%100) (d:=1000000000) h gb vA vA;have zm:Sz 500 (f*Rat.divInt (1000000001+g%100) 1000000000):=(h.mul (n:=40) ((zid (m:=40) (n:=40) vA gb vA).sz vA vA)).mono vA;have a0:f<f*Rat.divInt (1000000001+g%100) 1000000000:=by
  have e:Rat.divInt (1000000001+g%100) 1000000000*((1000000000:Int):Rat)=((1000000001+g%100:Int):Rat):=by
   rw[divI,Jn,Ux _ ((1000000000:Int):Rat),Y6 _ (λq=>by have:=Y9.mp q;omega)];grind
  have lt:((1000000000:Int):Rat)<((1000000001+g%100:Int):Rat):=by rw[Z1];omega
  have pos:(0:Rat)<((1000000000:Int):Rat):=by rw[show(0:Rat)=((0:Int):Rat) from rfl,Z1];decide
  generalize Rat.divInt (1000000001+g%100) 1000000000=m at *;generalize ((1000000000:Int):Rat)=N at *;generalize ((1000000001+g%100:Int):Rat)=K at *;have m1:1<m:=by
   by_cases c:1<m
   ·exact c
   ·have:=Zp (show 0<=1-m by grind) (Zu pos)
    grind
  have:=Zz p (show 0<m-1 by grind)
  grind
 have mp:0<f*Rat.divInt (1000000001+g%100) 1000000000:=by grind
 generalize f*Rat.divInt (1000000001+g%100) 1000000000=m at *;have ae:=o.few;have P:SzL 2000 r:=λq hq=>⟨(o.zl q hq).1.mono vA,(o.zl q hq).2.mono vA⟩
 have s1:zbo [.lst (r.map stD),fr f]=some (.new ((r.map (sc f)).map stD)):=zex vB P (h.mono vA) (numP p);have s2:zbo [.lst (r.map stD),fr m]=some (.new ((r.map (sc m)).map stD)):=zex vB P (zm.mono vA) (numP mp);have B1:=bd_sized s o p (h.mono vA);have B2:=bd_sized s o mp zm;have p1:=zrx B1;have p2:=zrx B2;have u1:=(yhb i j B1).1 Wq (Zu p) rfl;have u2:=(yhb i j B2).2 a0;rw[u2] at p2;have c1:cmpD .ne (.lst ((puL l (r.map (sc f))).map stD)) (.lst [])=some true:=by
  have:=yie (puL l (r.map (sc f))) []
  rw[decide_eq_false u1] at this;have e:cmpD .eq (.lst ((puL l (r.map (sc f))).map stD)) (.lst [])=some false:=this;show(eqO _ _).map not=_;have e2:eqO (.lst ((puL l (r.map (sc f))).map stD)) (.lst [])=some false:=e;rw[e2];rfl
 refine yep (Γ:=Γ) (b:=decide (f*w=1)) A C Q E R S F (zjb _) (zjb _) (zjb _) (zjb _) U W X Y (ltRR h O vA vA) l1 (ltRR h M vA vA) l2 (fr_eqd _ 1) al ?_ d1 d2 (ltRR h h vA vA) (ltRR (h.mul h) y2 vA vA) l3 T t5 s1 s2 p1 p2 c1 rfl;by_cases c:(r.map (sc (alF l r))).map (pl (alP l r))=l
 ·right
  exact⟨_,by rw[decide_eq_true c,if_pos rfl],decide_eq_true (b2.mpr c)⟩
 ·left
  exact⟨by rw[decide_eq_false c,if_neg vA],decide_eq_false (λy=>c (b2.mp y))⟩
def law51(i:Γ 102=zbz)(w:Γ 47=zbk)(A:Γ 103=zct)(H:Γ 66=zcn)(t:Γ 68=zbo)(m:Γ 125=mFit)(o:Γ 110=zdq)(B:Γ 74=zbi)(q:Γ 132=zgm)(C:Γ 58=zbl)(s:Γ 101=zcm)(I:List Int)(T:I.length<=63):run Γ zbe 10 [.lst (I.map .int)]=some (.val (.bl true)):=by
 obtain⟨h,hl,hb,J⟩:=zqb I T 26 vA vA
 rw[show((26:Nat):Int)=26 from rfl] at J;obtain⟨l,v,M⟩:=zfu (hs:=h) vB
 obtain⟨r,U,N⟩:=zfu (hs:=h.drop 8) (by rw[Yi];omega)
 obtain⟨z,E,O⟩:=zfu (hs:=h.drop 16) (by rw[Yi];omega)
 have P:cutD (h.map D.int) (some 8) none=(h.drop 8).map D.int:=yid (k:=8) vB;have F:cutD (h.map D.int) (some 16) none=(h.drop 16).map D.int:=yid (k:=16) vB;obtain⟨d,G⟩:∃g,L2.atI (h.map D.int) 24=some (.int g):=⟨_,zdb (hs:=h) (j:=24) vB⟩
 obtain⟨e,u⟩:∃g,L2.atI (h.map D.int) 25=some (.int g):=⟨_,zdb (hs:=h) (j:=25) vB⟩
 by_cases c:d%3=1
 ·have V:zct [.int (1+e%9),.int (1+d%9)]=some (.val (fr (Rat.divInt (1+e%9) (1+d%9)))):=zix vB (Ze (show(1+d%9).natAbs<2^4 by omega) (Bn vA));have K:Sy 4 4 (Rat.divInt (1+e%9) (1+d%9)):=zid vB vB vB;have Q:0<Rat.divInt (1+e%9) (1+d%9):=by
   rw[Y3,Yz];exact Zz (cast_pos.mpr vB) (Kj.mpr (cast_pos.mpr vB))
  generalize Rat.divInt (1+e%9) (1+d%9)=f at *;have W:=v.few;have R:(d%101).natAbs<2^7:=by omega
  have S:(e%101).natAbs<2^7:=by omega
  have X:=v.moved K Q R S;have Y:zbo [.lst (l.map stD),fr f]=some (.new ((l.map (sc f)).map stD)):=zex vB (v.sy.sz vA vA) (K.sz vA vA) (zxy Q);have Z:SyL 66 7 (l.map (sc f)):=v.sy.size K;have L:=zkk (l:=l.map (sc f)) (p:=(((d%101:Int):Rat),((e%101:Int):Rat))) (by rw[Zc];omega) (Z.sz (n:=100) vA vA) ⟨(zaz R vA).mono (show 7<=100 by decide),(zaz S vA).mono vA⟩;rw[yhc] at L;have pe:stD (((d%101:Int):Rat),((e%101:Int):Rat))=.tup [.tup [.int (d%101),.int 1],.tup [.int (e%101),.int 1]]:=by
   unfold stD;rw[<-yhh,<-yhh]
  rw[pe] at L;exact l51_b (Γ:=Γ) i w A H t J (zlu _) M (zcf _) P N (zcf _) F O (zcf _) G u (decide_eq_true c) V Y L (zcf _) (zyq m o B q C t s v.k5 X E.k5 u _)
 ·exact l51_a (Γ:=Γ) i w J (zlu _) M (zcf _) P N (zcf _) F O (zcf _) G (decide_eq_false c) (zyq m o B q C t s v.k5 U.k5 E.k5 u _)
end
end DL
namespace LW
open DL
def Γ:Nat->List D->Option W
 |0=>zaa
 |1=>zcs
 |9=>zcj
 |10=>B8
 |11=>By
 |12=>zaa
 |20=>zfg
 |21=>zbb
 |40=>ziw
 |41=>zdi
 |42=>zfd
 |43=>zqf
 |46=>zfe
 |47=>zbk
 |50=>zek
 |58=>zbl
 |59=>zff
 |66=>zcn
 |67=>ziz
 |68=>zbo
 |74=>zbi
 |81=>zby
 |92=>zci
 |93=>zaj
 |95=>zau
 |96=>ziy
 |98=>zbh
 |99=>zgw
 |100=>zdp
 |101=>zcm
 |102=>zbz
 |103=>zct
 |105=>zgx
 |108=>mLPlus
 |110=>zdq
 |125=>mFit
 |126=>zgb
 |132=>zgm
 |_=>λ_=>none
def yem:∀d:List Int,d.length ≤ 63->run Γ zbe 10 [.lst (d.map D.int)]=some (.val (.bl true)):=by
 intro d e;apply DL.law51<;>first|rfl|exact e
end LW
namespace LW
open PySem L2 DL
def top(i:Nat):Stmt:=PySem.Challenge.pw_snugfit_k51_whole_factors.main.body.getD i (.Pass ⟨0,0,0,0⟩)
def bnd1{x:Str}{f:Stmt}{l:Str}(h:∀(kV d i:Value) (j:Option Addr) (e ct:Value) (g:Value),bindArgs (PySem.W.fnOf x x (zbm f) (Bl f) (Bj f) .none kV d i j e ct) ⟨[g],[]⟩=pure ([l].zip [g])):Bnd x f [l]:=λkV d i j e ct n m=>by
 cases n with
 |nil=>cases m
 |cons g o=>
  cases o with
  |nil=>exact h kV d i j e ct g
  |cons _ _=>cases m
def bnd2{x:Str}{f:Stmt}{n o:Str}(h:∀(kV d j:Value) (l:Option Addr) (e ct:Value) (g i:Value),bindArgs (PySem.W.fnOf x x (zbm f) (Bl f) (Bj f) .none kV d j l e ct) ⟨[g,i],[]⟩=pure ([n,o].zip [g,i])):Bnd x f [n,o]:=λkV d j l e ct p m=>by
 cases p with
 |nil=>cases m
 |cons g q=>
  cases q with
  |nil=>cases m
  |cons i r=>
   cases r with
   |nil=>exact h kV d j l e ct g i
   |cons _ _=>cases m
def bnd3{x:Str}{f:Stmt}{o p q:Str}(h:∀(kV d m:Value) (n:Option Addr) (e ct:Value) (g i j:Value),bindArgs (PySem.W.fnOf x x (zbm f) (Bl f) (Bj f) .none kV d m n e ct) ⟨[g,i,j],[]⟩=pure ([o,p,q].zip [g,i,j])):Bnd x f [o,p,q]:=λkV d m n e ct r l=>by
 cases r with
 |nil=>cases l
 |cons g s=>
  cases s with
  |nil=>cases l
  |cons i t=>
   cases t with
   |nil=>cases l
   |cons j u=>
    cases u with
    |nil=>exact h kV d m n e ct g i j
    |cons _ _=>cases l
def zju:FnScope ["_law_script","_law_many","_law_k","_law_found","_law_cell","_law_at"] ["_law_script","_law_many"] (Bj (top 44)):=vD
def zjy:Bnd "_law_numbers" (top 44) ["_law_script","_law_many"]:=bnd2 λ_ _ _ _ _ _ _ _=>rfl
def zij:FnScope ["_law_head","_law_lows","_law_k","_law_highs","_law_top"] ["_law_head"] (Bj (top 47)):=vD
def zjk:Bnd "_law_bows" (top 47) ["_law_head"]:=bnd1 λ_ _ _ _ _ _ _=>rfl
def zih:FnScope ["_law_head","_law_u","_law_v","_law_both","_law_way","_law_far","_law_back"] ["_law_head"] (Bj (top 48)):=vD
def zji:Bnd "_law_ring" (top 48) ["_law_head"]:=bnd1 λ_ _ _ _ _ _ _=>rfl
def zjv:FnScope ["_law_one","_law_other"] ["_law_one","_law_other"] (Bj (top 45)):=vD
def zjz:Bnd "_law_divisor" (top 45) ["_law_one","_law_other"]:=bnd2 λ_ _ _ _ _ _ _ _=>rfl
def zii:FnScope ["_law_top","_law_bottom","_law_most"] ["_law_top","_law_bottom"] (Bj (top 46)):=vD
def zjj:Bnd "_law_fraction" (top 46) ["_law_top","_law_bottom"]:=bnd2 λ_ _ _ _ _ _ _ _=>rfl
def zgu:FnScope ["_law_head","_law_ring_here","_law_by","_law_off","_law_share","_law_at","_law_found","_law_x","_law_y","_law_right"] ["_law_head"] (Bj (top 49)):=vD
def zgz:Bnd "_law_shape" (top 49) ["_law_head"]:=bnd1 λ_ _ _ _ _ _ _=>rfl
def zum:FnScope ["one","other","great","small","rest"] ["one","other"] (Bj (top 5)):=vD
def zvf:Bnd "divisor" (top 5) ["one","other"]:=bnd2 λ_ _ _ _ _ _ _ _=>rfl
def ykc:FnScope ["one","other","shared","top","rest"] ["one","other"] (Bj (top 7)):=vD
def yoo:Bnd "plus" (top 7) ["one","other"]:=bnd2 λ_ _ _ _ _ _ _ _=>rfl
def ydb:FnScope ["one","other"] ["one","other"] (Bj (top 35)):=vD
def ygl:Bnd "added" (top 35) ["one","other"]:=bnd2 λ_ _ _ _ _ _ _ _=>rfl
def zwp:FnScope ["shape","push"] ["shape","push"] (Bj (top 34)):=vD
def yay:Bnd "pushed" (top 34) ["shape","push"]:=bnd2 λ_ _ _ _ _ _ _ _=>rfl
def ycv:FnScope ["top","bottom","shared"] ["top","bottom"] (Bj (top 6)):=vD
def ygf:Bnd "ratio" (top 6) ["top","bottom"]:=bnd2 λ_ _ _ _ _ _ _ _=>rfl
def ycr:FnScope ["one","other"] ["one","other"] (Bj (top 9)):=vD
def ygc:Bnd "times" (top 9) ["one","other"]:=bnd2 λ_ _ _ _ _ _ _ _=>rfl
def yct:FnScope ["shape","factor"] ["shape","factor"] (Bj (top 36)):=vD
def bd_sized:Bnd "sized" (top 36) ["shape","factor"]:=bnd2 λ_ _ _ _ _ _ _ _=>rfl
def ycy:FnScope ["side","other"] ["side","other"] (Bj (top 16)):=vD
def ygi:Bnd "cross" (top 16) ["side","other"]:=bnd2 λ_ _ _ _ _ _ _ _=>rfl
def zlf:FnScope ["trio","before","middle","after"] ["trio"] (Bj (top 25)):=vD
def zmr:Bnd "weights_of" (top 25) ["trio"]:=bnd1 λ_ _ _ _ _ _ _=>rfl
def zjt:FnScope ["trio","common","bound","top","bottom","weight","middle"] ["trio"] (Bj (top 26)):=vD
def zjx:Bnd "set_closing" (top 26) ["trio"]:=bnd1 λ_ _ _ _ _ _ _=>rfl
def ycs:FnScope ["shape"] ["shape"] (Bj (top 14)):=vD
def ygd:Bnd "steps" (top 14) ["shape"]:=bnd1 λ_ _ _ _ _ _ _=>rfl
def ycw:FnScope ["one","other"] ["one","other"] (Bj (top 8)):=vD
def ygg:Bnd "minus" (top 8) ["one","other"]:=bnd2 λ_ _ _ _ _ _ _ _=>rfl
def zig:FnScope ["parts","common","part","tops","shared","top"] ["parts"] (Bj (top 17)):=vD
def zjh:Bnd "lowest_whole" (top 17) ["parts"]:=bnd1 λ_ _ _ _ _ _ _=>rfl
def zif:FnScope ["start","end","a","b","c"] ["start","end"] (Bj (top 15)):=vD
def zjg:Bnd "side_between" (top 15) ["start","end"]:=bnd2 λ_ _ _ _ _ _ _ _=>rfl
def zpq:FnScope ["shape"] ["shape"] (Bj (top 13)):=vD
def zqv:Bnd "sides_of" (top 13) ["shape"]:=bnd1 λ_ _ _ _ _ _ _=>rfl
def ycx:FnScope ["a","b","spot"] ["a","b","spot"] (Bj (top 18)):=vD
def ygh:Bnd "level" (top 18) ["a","b","spot"]:=bnd3 λ_ _ _ _ _ _ _ _ _=>rfl
def ycz:FnScope ["one","other"] ["one","other"] (Bj (top 11)):=vD
def ygj:Bnd "below" (top 11) ["one","other"]:=bnd2 λ_ _ _ _ _ _ _ _=>rfl
def ycu:FnScope ["shape","a","b","best","corner","found"] ["shape","a","b"] (Bj (top 20)):=vD
def yge:Bnd "reach" (top 20) ["shape","a","b"]:=bnd3 λ_ _ _ _ _ _ _ _ _=>rfl
def zuh:FnScope ["bounds","k"] ["bounds","k"] (Bj (top 24)):=vD
def zva:Bnd "trio_at" (top 24) ["bounds","k"]:=bnd2 λ_ _ _ _ _ _ _ _=>rfl
def znl:FnScope ["one","other","bounds","place","side","least","k"] ["one","other"] (Bj (top 23)):=vD
def zpa:Bnd "bounds_of" (top 23) ["one","other"]:=bnd2 λ_ _ _ _ _ _ _ _=>rfl
def ykf:FnScope ["bounds","k"] ["bounds","k"] (Bj (top 29)):=vD
def yor:Bnd "drop" (top 29) ["bounds","k"]:=bnd2 λ_ _ _ _ _ _ _ _=>rfl
def zpu:FnScope ["bounds","first","k","closing"] ["bounds"] (Bj (top 27)):=vD
def zqz:Bnd "earliest" (top 27) ["bounds"]:=bnd1 λ_ _ _ _ _ _ _=>rfl
def zpt:FnScope ["bounds","k"] ["bounds","k"] (Bj (top 28)):=vD
def zqy:Bnd "ends_all" (top 28) ["bounds","k"]:=bnd2 λ_ _ _ _ _ _ _ _=>rfl
def znk:FnScope ["trio","weights","shared","weight","shares"] ["trio"] (Bj (top 39)):=vD
def zoz:Bnd "shares_of" (top 39) ["trio"]:=bnd1 λ_ _ _ _ _ _ _=>rfl
def zuk:FnScope ["bound","factor"] ["bound","factor"] (Bj (top 31)):=vD
def zvd:Bnd "edge_by" (top 31) ["bound","factor"]:=bnd2 λ_ _ _ _ _ _ _ _=>rfl
def ykd:FnScope ["one","other"] ["one","other"] (Bj (top 10)):=vD
def yop:Bnd "over" (top 10) ["one","other"]:=bnd2 λ_ _ _ _ _ _ _ _=>rfl
def zui:FnScope ["one","other","factor","first","second","bend","x","y"] ["one","other","factor"] (Bj (top 30)):=vD
def zvb:Bnd "meeting" (top 30) ["one","other","factor"]:=bnd3 λ_ _ _ _ _ _ _ _ _=>rfl
def sc_fit:FnScope ["one","other","bounds","k","trio","closing","factor","shares","places","weights"] ["one","other"] (Bj (top 38)):=vD
def bd_fit:Bnd "fit" (top 38) ["one","other"]:=bnd2 λ_ _ _ _ _ _ _ _=>rfl
def zps:FnScope ["_law_one","_law_other"] ["_law_one","_law_other"] (Bj (top 52)):=vD
def zqx:Bnd "_law_less" (top 52) ["_law_one","_law_other"]:=bnd2 λ_ _ _ _ _ _ _ _=>rfl
def zgt:FnScope ["_law_one","_law_other"] ["_law_one","_law_other"] (Bj (top 51)):=vD
def zgy:Bnd "_law_times" (top 51) ["_law_one","_law_other"]:=bnd2 λ_ _ _ _ _ _ _ _=>rfl
def yda:FnScope ["one","other","factor","grown","push"] ["one","other"] (Bj (top 40)):=vD
def ygk:Bnd "alike" (top 40) ["one","other"]:=bnd2 λ_ _ _ _ _ _ _ _=>rfl
def zul:FnScope ["shape","total","start","end","part"] ["shape"] (Bj (top 19)):=vD
def zve:Bnd "doubled" (top 19) ["shape"]:=bnd1 λ_ _ _ _ _ _ _=>rfl
def zpr:FnScope ["bounds","factor"] ["bounds","factor"] (Bj (top 32)):=vD
def zqw:Bnd "meetings" (top 32) ["bounds","factor"]:=bnd2 λ_ _ _ _ _ _ _ _=>rfl
def zwo:FnScope ["one","other","bounds","k","spots"] ["one","other"] (Bj (top 42)):=vD
def yax:Bnd "pushes" (top 42) ["one","other"]:=bnd2 λ_ _ _ _ _ _ _ _=>rfl
def zuj:FnScope ["_law_script","_law_head","_law_one","_law_other","_law_third","_law_push","_law_factor","_law_back","_law_both","_law_more"] ["_law_script"] (Bj (top 53)):=vD
def zvc:Bnd "law" (top 53) ["_law_script"]:=bnd1 λ_ _ _ _ _ _ _=>rfl
def zjq:trSs 40 ⟨["_law_script","_law_many","_law_k","_law_found","_law_cell","_law_at"],Bj (top 44),[],[],false⟩ (Bl (top 44))=some zcb:=by kernel_rfl
def zhz:trSs 40 ⟨["_law_head","_law_lows","_law_k","_law_highs","_law_top"],Bj (top 47),[],[],false⟩ (Bl (top 47))=some zbf:=by kernel_rfl
def zhx:trSs 40 ⟨["_law_head","_law_u","_law_v","_law_both","_law_way","_law_far","_law_back"],Bj (top 48),[("_law_bows",105,1)],[],false⟩ (Bl (top 48))=some zbd:=by kernel_rfl
def zjr:trSs 40 ⟨["_law_one","_law_other"],Bj (top 45),[],[],false⟩ (Bl (top 45))=some zdh:=by kernel_rfl
def zhy:trSs 40 ⟨["_law_top","_law_bottom","_law_most"],Bj (top 46),[("_law_divisor",12,2)],[],false⟩ (Bl (top 46))=some zco:=by kernel_rfl
def zgr:trSs 40 ⟨["_law_head","_law_ring_here","_law_by","_law_off","_law_share","_law_at","_law_found","_law_x","_law_y","_law_right"],Bj (top 49),[("_law_ring",46,1),("_law_fraction",103,2)],[],false⟩ (Bl (top 49))=some zav:=by kernel_rfl
def ztz:trSs 40 ⟨["one","other","great","small","rest"],Bj (top 5),[],[],false⟩ (Bl (top 5))=some zjo:=by kernel_rfl
def yiz:trSs 40 ⟨["one","other","shared","top","rest"],Bj (top 7),[("divisor",0,2)],[],false⟩ (Bl (top 7))=some yaz:=by kernel_rfl
def ycf:trSs 40 ⟨["one","other"],Bj (top 35),[("plus",9,2)],[],false⟩ (Bl (top 35))=some zmv:=by kernel_rfl
def zvw:trSs 40 ⟨["shape","push"],Bj (top 34),[("added",67,2)],[],false⟩ (Bl (top 34))=some zfq:=by kernel_rfl
def yby:trSs 40 ⟨["top","bottom","shared"],Bj (top 6),[("divisor",0,2)],[],false⟩ (Bl (top 6))=some zrb:=by kernel_rfl
def ybu:trSs 40 ⟨["one","other"],Bj (top 9),[("ratio",1,2)],[],false⟩ (Bl (top 9))=some zra:=by kernel_rfl
def ybw:trSs 40 ⟨["shape","factor"],Bj (top 36),[("times",11,2)],[],false⟩ (Bl (top 36))=some zjm:=by kernel_rfl
def ycc:trSs 40 ⟨["side","other"],Bj (top 16),[],[],false⟩ (Bl (top 16))=some zmu:=by kernel_rfl
def zkv:trSs 40 ⟨["trio","before","middle","after"],Bj (top 25),[("cross",81,2)],[],true⟩ (Bl (top 25))=some zcl:=by kernel_rfl
def zjs:SetSh (top 26) ⟨["trio","common","bound","top","bottom","weight","middle"],Bj (top 26),[("weights_of",93,1)],[],true⟩ 40 o_set_closing.1 o_set_closing.2.1 o_set_closing.2.2:=⟨(Bl (top 26)).take 6,_,_,_,_,_,rfl,by kernel_rfl,by kernel_rfl,by kernel_rfl,rfl⟩
def ybv:trSs 40 ⟨["shape"],Bj (top 14),[],[],false⟩ (Bl (top 14))=some zms:=by kernel_rfl
def ybz:trSs 40 ⟨["one","other"],Bj (top 8),[("plus",9,2)],[],false⟩ (Bl (top 8))=some zrc:=by kernel_rfl
def zhw:trSs 40 ⟨["parts","common","part","tops","shared","top"],Bj (top 17),[("divisor",0,2)],[],false⟩ (Bl (top 17))=some zbc:=by kernel_rfl
def zhv:trSs 40 ⟨["start","end","a","b","c"],Bj (top 15),[("minus",10,2),("plus",9,2),("times",11,2),("lowest_whole",43,1)],[],false⟩ (Bl (top 15))=some zbs:=by kernel_rfl
def zph:trSs 40 ⟨["shape"],Bj (top 13),[("steps",41,1),("side_between",42,2)],[],false⟩ (Bl (top 13))=some zcw:=by kernel_rfl
def yca:trSs 40 ⟨["a","b","spot"],Bj (top 18),[("plus",9,2),("times",11,2)],[],false⟩ (Bl (top 18))=some zmt:=by kernel_rfl
def ycd:trSs 40 ⟨["one","other"],Bj (top 11),[],[],false⟩ (Bl (top 11))=some zgg:=by kernel_rfl
def ybx:trSs 40 ⟨["shape","a","b","best","corner","found"],Bj (top 20),[("level",50,3),("below",21,2)],[],false⟩ (Bl (top 20))=some zjn:=by kernel_rfl
def ztu:trSs 40 ⟨["bounds","k"],Bj (top 24),[],[],false⟩ (Bl (top 24))=some zfp:=by kernel_rfl
def zni:BoSh (top 23) ⟨["one","other","bounds","place","side","least","k"],Bj (top 23),[("sides_of",40,1),("minus",10,2),("reach",59,3),("trio_at",92,2)],[],true⟩ 40 o_bounds_of.1 o_bounds_of.2.1 o_bounds_of.2.2.1 o_bounds_of.2.2.2:=⟨_,_,_,_,_,_,_,_,_,_,_,_,_,_,_,_,_,_,_,_,_,_,_,_,_,_,_,_,_,_,_,_,rfl,rfl,by kernel_rfl,by kernel_rfl,rfl,rfl,by kernel_rfl,rfl,by kernel_rfl,rfl,by decide +kernel,by decide +kernel,by decide +kernel⟩
def yjs:yip (top 29) ⟨["bounds","k"],Bj (top 29),[("trio_at",92,2)],[],true⟩ 40 o_drop.1 o_drop.2:=⟨_,_,_,_,_,_,_,_,_,_,_,_,_,rfl,rfl,by kernel_rfl,by kernel_rfl,rfl,rfl,by decide +kernel⟩
def zpl:trSs 40 ⟨["bounds","first","k","closing"],Bj (top 27),[("below",21,2)],[],true⟩ (Bl (top 27))=some zef:=by kernel_rfl
def zpk:trSs 40 ⟨["bounds","k"],Bj (top 28),[("weights_of",93,1),("trio_at",92,2)],[],false⟩ (Bl (top 28))=some zee:=by kernel_rfl
def znb:trSs 40 ⟨["trio","weights","shared","weight","shares"],Bj (top 39),[("weights_of",93,1),("divisor",0,2)],[],true⟩ (Bl (top 39))=some zch:=by kernel_rfl
def ztx:trSs 40 ⟨["bound","factor"],Bj (top 31),[("minus",10,2),("times",11,2)],[],true⟩ (Bl (top 31))=some zfr:=by kernel_rfl
def yja:trSs 40 ⟨["one","other"],Bj (top 10),[("ratio",1,2)],[],false⟩ (Bl (top 10))=some yba:=by kernel_rfl
def ztv:trSs 40 ⟨["one","other","factor","first","second","bend","x","y"],Bj (top 30),[("edge_by",99,2),("cross",81,2),("minus",10,2),("times",11,2),("over",20,2)],[],true⟩ (Bl (top 30))=some zdw:=by kernel_rfl
def sh_fit:FitSh (top 38) ⟨["one","other","bounds","k","trio","closing","factor","shares","places","weights"],Bj (top 38),[("earliest",95,1),("ends_all",96,2),("trio_at",92,2),("ratio",1,2),("shares_of",126,1),("meeting",98,3)],[],true⟩ 40 o_fit.1 o_fit.2.1 o_fit.2.2:=⟨_,_,_,_,_,_,_,_,_,_,_,_,_,_,_,_,_,_,_,_,rfl,by kernel_rfl,by kernel_rfl,by kernel_rfl,by kernel_rfl,by kernel_rfl,by kernel_rfl,by kernel_rfl,by kernel_rfl,rfl,rfl,by decide +kernel,by decide +kernel⟩
def zpj:trSs 40 ⟨["_law_one","_law_other"],Bj (top 52),[],[],false⟩ (Bl (top 52))=some zgf:=by kernel_rfl
def zgq:trSs 40 ⟨["_law_one","_law_other"],Bj (top 51),[("_law_fraction",103,2)],[],false⟩ (Bl (top 51))=some zag:=by kernel_rfl
def yce:trSs 40 ⟨["one","other","factor","grown","push"],Bj (top 40),[("over",20,2),("minus",10,2),("sized",68,2),("pushed",66,2)],[],false⟩ (Bl (top 40))=some zjp:=by kernel_rfl
def zty:trSs 40 ⟨["shape","total","start","end","part"],Bj (top 19),[("steps",41,1),("minus",10,2),("times",11,2),("plus",9,2)],[],false⟩ (Bl (top 19))=some zfs:=by kernel_rfl
def zpi:trSs 40 ⟨["bounds","factor"],Bj (top 32),[("meeting",98,3)],[],false⟩ (Bl (top 32))=some zcc:=by kernel_rfl
def zwl:yim (top 42) ⟨["one","other","bounds","k","spots"],Bj (top 42),[("earliest",95,1),("below",21,2),("ends_all",96,2),("meetings",100,2)],[],true⟩ 40 o_pushes.1 o_pushes.2.1 o_pushes.2.2.1 o_pushes.2.2.2:=⟨_,_,_,_,_,_,_,_,_,_,_,_,_,_,_,_,_,_,_,_,_,_,_,_,rfl,by kernel_rfl,by kernel_rfl,by kernel_rfl,by kernel_rfl,by kernel_rfl,by kernel_rfl,by kernel_rfl,by kernel_rfl,by kernel_rfl,rfl,rfl,by decide +kernel,by decide +kernel⟩
def ztw:trSs 40 ⟨["_law_script","_law_head","_law_one","_law_other","_law_third","_law_push","_law_factor","_law_back","_law_both","_law_more"],Bj (top 53),[("_law_numbers",102,2),("_law_shape",47,1),("pushed",66,2),("sized",68,2),("_law_fraction",103,2),("fit",125,2),("_law_less",110,2),("_law_times",74,2),("alike",132,2),("doubled",58,1),("pushes",101,2)],[],false⟩ (Bl (top 53))=some zbe:=by kernel_rfl
section
variable{P:Program}{w:World}{K:vE}{h:Heap}{mg:Str->Option Value}{fa:Addr}
def yjr:yio (zgc (top 22) 0):=⟨_,_,_,_,_,_,_,_,_,_,_,_,_,_,_,_,_,rfl⟩
def yke:FnScope ["self","place","side","least"] ["self","place","side","least"] (Bj (zgc (top 22) 0)):=vD
theorem yoq:∀(kV d g:Value) (h:Option Addr) (e ct:Value) (f:List Value),f.length=4->bindArgs (PySem.W.fnOf "__init__" "Bound.__init__" (zbm (zgc (top 22) 0)) (Bl (zgc (top 22) 0)) (Bj (zgc (top 22) 0)) .none kV d g h e ct) ⟨f,[]⟩=pure ((["self","place","side","least"]:List Str).zip f)
 |_,_,_,_,_,_,[_,_,_,_],_=>rfl
def all_mk(X:K.In h)(G:h.Ns mainGlobals mg)(aZ:mg "law" = some (.ref fa))(O:At K "_law_numbers" (top 44))(D:At K "_law_bows" (top 47))(E:At K "_law_ring" (top 48))(Q:At K "_law_divisor" (top 45))(F:At K "_law_fraction" (top 46))(t:At K "_law_shape" (top 49))(ah:At K "divisor" (top 5))(aN:At K "plus" (top 7))(aw:At K "added" (top 35))(as:At K "pushed" (top 34))(ax:At K "ratio" (top 6))(ay:At K "times" (top 9))(az:At K "sized" (top 36))(aA:At K "cross" (top 16))(Z:At K "weights_of" (top 25))(R:At K "set_closing" (top 26))(aB:At K "steps" (top 14))(aC:At K "minus" (top 8))(H:At K "lowest_whole" (top 17))(I:At K "side_between" (top 15))(a4:At K "sides_of" (top 13))(aD:At K "level" (top 18))(aE:At K "below" (top 11))(aF:At K "reach" (top 20))(ai:At K "trio_at" (top 24))(a1:At K "bounds_of" (top 23))(aO:At K "drop" (top 29))(a5:At K "earliest" (top 27))(a6:At K "ends_all" (top 28))(a2:At K "shares_of" (top 39))(aj:At K "edge_by" (top 31))(aP:At K "over" (top 10))(ak:At K "meeting" (top 30))(aS:At K "fit" (top 38))(a7:At K "_law_less" (top 52))(u:At K "_law_times" (top 51))(aG:At K "alike" (top 40))(am:At K "doubled" (top 19))(a8:At K "meetings" (top 32))(au:At K "pushes" (top 42))(an:At K "law" (top 53))(e:AtC K (zgc (top 22) 0))
 (b0:PySem.W.nsIn K mainGlobals "len" = some none)(b1:PySem.W.nsIn K mainGlobals "abs" = some none)(aM:PySem.W.nsIn K mainGlobals "isinstance" = some none)(b2:PySem.W.nsIn K mainGlobals "int" = some none)(aX:PySem.W.nsIn K mainGlobals "bool" = some none)(aV:PySem.W.nsIn K mainGlobals "tuple" = some none)(aY:PySem.W.nsIn K mainGlobals "list" = some none)(aW:PySem.W.nsIn K mainGlobals "range" = some none)(aQ:PySem.W.nsIn K mainGlobals "enumerate" = some none)(b3:PySem.W.nsIn K mainGlobals "min" = some none)(b4:PySem.W.nsIn K mainGlobals "max" = some none)(aU:PySem.W.nsIn K mainGlobals "sorted" = some none)(b5:PySem.W.nsIn K mainGlobals "set" = some none)(aR:PySem.W.nsIn K mainGlobals "reversed" = some none)(b6:PySem.W.nsIn K mainGlobals "zip" = some none)(b7:PySem.W.nsIn K mainGlobals "sum" = some none):
  ∃fd:FuncData,(∀(s:Shared) (v:Value),BindsTo s fd ⟨[v],[]⟩ [("_law_script",v)]) ∧ ∀d:Heap,K.In d->d.Ns mainGlobals mg->FnOk P w K mg d CX0 41 fa fd ["_law_script"] (spD K 1 (run Γ zbe 10)):=by
 have i:∀x∈zdg,mg x=none:=yfv X G (by
  intro x hx;simp only[zdg,Zh,Zr,or_false] at hx;rcases hx with rfl|rfl|rfl|rfl|rfl|rfl|rfl|rfl|rfl|rfl|rfl|rfl|rfl|rfl|rfl|rfl<;>assumption)
 refine law_at an X G aZ zuj zvc ztw (λd hk hn=>?_);have S:GFn P w K mg d 1 "_law_numbers" 2 (Γ 102):=zab (Γ:=Γ) (k:=0) O X G zju zjy zjq rfl ⟨Calls.nil,CallsR.nil,(λh=>nomatch h),i⟩ (by apply DL.ok_law_numbers<;>rfl);have J:GFn P w K mg d 2 "_law_bows" 1 (Γ 105):=zab (Γ:=Γ) (k:=1) D X G zij zjk zhz rfl ⟨Calls.nil,CallsR.nil,(λh=>nomatch h),i⟩ (by apply DL.ok_law_bows_k32<;>rfl);have L:GFn P w K mg d 3 "_law_ring" 1 (Γ 46):=zab (Γ:=Γ) (k:=2) E X G zih zji zhx rfl ⟨(Calls.cons J vA Calls.nil),CallsR.nil,(λh=>nomatch h),i⟩ (by apply DL.ok_law_ring_k31<;>rfl);have T:GFn P w K mg d 4 "_law_divisor" 2 (Γ 12):=zab (Γ:=Γ) (k:=3) Q X G zjv zjz zjr rfl ⟨Calls.nil,CallsR.nil,(λh=>nomatch h),i⟩ (by apply DL.ok_law_divisor<;>rfl);have f:GFn P w K mg d 5 "_law_fraction" 2 (Γ 103):=zab (Γ:=Γ) (k:=4) F X G zii zjj zhy rfl ⟨(Calls.cons T vA Calls.nil),CallsR.nil,(λh=>nomatch h),i⟩ (by apply DL.ok_law_fraction<;>rfl);have z:GFn P w K mg d 6 "_law_shape" 1 (Γ 47):=zab (Γ:=Γ) (k:=5) t X G zgu zgz zgr rfl ⟨(Calls.cons L vA (Calls.cons f vA Calls.nil)),CallsR.nil,(λh=>nomatch h),i⟩ (by apply DL.ok_law_shape_k31<;>rfl);have m:GFn P w K mg d 7 "divisor" 2 (Γ 0):=zab (Γ:=Γ) (k:=6) ah X G zum zvf ztz rfl ⟨Calls.nil,CallsR.nil,(λh=>nomatch h),i⟩ (by apply DL.ok_divisor<;>rfl);have q:GFn P w K mg d 8 "plus" 2 (Γ 9):=zab (Γ:=Γ) (k:=7) aN X G ykc yoo yiz rfl ⟨(Calls.cons m vA Calls.nil),CallsR.nil,(λh=>nomatch h),i⟩ (by apply DL.ok_plus<;>rfl);have aH:GFn P w K mg d 9 "added" 2 (Γ 67):=zab (Γ:=Γ) (k:=8) aw X G ydb ygl ycf rfl ⟨(Calls.cons q vA Calls.nil),CallsR.nil,(λh=>nomatch h),i⟩ (by apply DL.ok_added<;>rfl);have a0:GFn P w K mg d 10 "pushed" 2 (Γ 66):=zab (Γ:=Γ) (k:=9) as X G zwp yay zvw rfl ⟨(Calls.cons aH vA Calls.nil),CallsR.nil,(λh=>nomatch h),i⟩ (by apply DL.ok_pushed<;>rfl);have U:GFn P w K mg d 11 "ratio" 2 (Γ 1):=zab (Γ:=Γ) (k:=10) ax X G ycv ygf yby rfl ⟨(Calls.cons m vA Calls.nil),CallsR.nil,(λh=>nomatch h),i⟩ (by apply DL.ok_ratio<;>rfl);have j:GFn P w K mg d 12 "times" 2 (Γ 11):=zab (Γ:=Γ) (k:=11) ay X G ycr ygc ybu rfl ⟨(Calls.cons U vA Calls.nil),CallsR.nil,(λh=>nomatch h),i⟩ (by apply DL.ok_times<;>rfl);have a9:GFn P w K mg d 13 "sized" 2 (Γ 68):=zab (Γ:=Γ) (k:=12) az X G yct bd_sized ybw rfl ⟨(Calls.cons j vA Calls.nil),CallsR.nil,(λh=>nomatch h),i⟩ (by apply DL.ok_sized<;>rfl);have aa:GFn P w K mg d 14 "cross" 2 (Γ 81):=zab (Γ:=Γ) (k:=13) aA X G ycy ygi ycc rfl ⟨Calls.nil,CallsR.nil,(λh=>nomatch h),i⟩ (by apply DL.ok_cross<;>rfl);have g:GFn P w K mg d 15 "weights_of" 1 (Γ 93):=zab (Γ:=Γ) (k:=14) Z X G zlf zmr zkv rfl ⟨(Calls.cons aa vA Calls.nil),CallsR.nil,(λ_=>e.bf),i⟩ (by apply DL.ok_weights_of<;>rfl);have p:GSp P w K mg d 16 "set_closing" (zgs K Psi):=ymo (k:=15) R X G zjt zjx zjs ⟨(Calls.cons g vA Calls.nil),CallsR.nil,(λ_=>e.bf),i⟩ (psi_ok rfl);have ab:GFn P w K mg d 17 "steps" 1 (Γ 41):=zab (Γ:=Γ) (k:=16) aB X G ycs ygd ybv rfl ⟨Calls.nil,CallsR.nil,(λh=>nomatch h),i⟩ (by apply DL.ok_steps<;>rfl);have l:GFn P w K mg d 18 "minus" 2 (Γ 10):=zab (Γ:=Γ) (k:=17) aC X G ycw ygg ybz rfl ⟨(Calls.cons q vA Calls.nil),CallsR.nil,(λh=>nomatch h),i⟩ (by apply DL.ok_minus<;>rfl);have M:GFn P w K mg d 19 "lowest_whole" 1 (Γ 43):=zab (Γ:=Γ) (k:=18) H X G zig zjh zhw rfl ⟨(Calls.cons m vA Calls.nil),CallsR.nil,(λh=>nomatch h),i⟩ (by apply DL.ok_lowest_whole<;>rfl);have N:GFn P w K mg d 20 "side_between" 2 (Γ 42):=zab (Γ:=Γ) (k:=19) I X G zif zjg zhv rfl ⟨(Calls.cons l vA (Calls.cons q vA (Calls.cons j vA (Calls.cons M vA Calls.nil)))),CallsR.nil,(λh=>nomatch h),i⟩ (by apply DL.ok_side_between<;>rfl);have ae:GFn P w K mg d 21 "sides_of" 1 (Γ 40):=zab (Γ:=Γ) (k:=20) a4 X G zpq zqv zph rfl ⟨(Calls.cons ab vA (Calls.cons N vA Calls.nil)),CallsR.nil,(λh=>nomatch h),i⟩ (by apply DL.ok_sides_of<;>rfl);have aI:GFn P w K mg d 22 "level" 3 (Γ 50):=zab (Γ:=Γ) (k:=21) aD X G ycx ygh yca rfl ⟨(Calls.cons q vA (Calls.cons j vA Calls.nil)),CallsR.nil,(λh=>nomatch h),i⟩ (by apply DL.ok_level<;>rfl);have V:GFn P w K mg d 23 "below" 2 (Γ 21):=zab (Γ:=Γ) (k:=22) aE X G ycz ygj ycd rfl ⟨Calls.nil,CallsR.nil,(λh=>nomatch h),i⟩ (by apply DL.ok_belowR<;>rfl);have aJ:GFn P w K mg d 24 "reach" 3 (Γ 59):=zab (Γ:=Γ) (k:=23) aF X G ycu yge ybx rfl ⟨(Calls.cons aI vA (Calls.cons V vA Calls.nil)),CallsR.nil,(λh=>nomatch h),i⟩ (by apply DL.ok_reachR<;>rfl);have o:GFn P w K mg d 25 "trio_at" 2 (Γ 92):=zab (Γ:=Γ) (k:=24) ai X G zuh zva ztu rfl ⟨Calls.nil,CallsR.nil,(λh=>nomatch h),i⟩ (by apply DL.ok_trio_at<;>rfl);have aK:MkB P w K mg d 1:=mkb_at (k:=0) e X G yke yoq yjr (by decide +kernel);have r:GSp P w K mg d 26 "bounds_of" (spBo K Xi):=gbo_at (k:=24) a1 X G znl zpa (by decide +kernel) zni (i "range" (by decide +kernel)) (p.mono vA) (aK.mono vA) ⟨(Calls.cons ae vA (Calls.cons l vA (Calls.cons aJ vA (Calls.cons o vA Calls.nil)))),CallsR.nil,(λ_=>e.bf),i⟩ (xi_ok rfl rfl rfl rfl);have aq:GSp P w K mg d 27 "drop" (zgh K Tht):=yex (k:=26) aO X G ykf yor (by decide +kernel) yjs (p.mono vA) ⟨(Calls.cons o vA Calls.nil),CallsR.nil,(λ_=>e.bf),i⟩ (tht_ok rfl);have B:GFn P w K mg d 28 "earliest" 1 (Γ 95):=zab (Γ:=Γ) (k:=27) a5 X G zpu zqz zpl rfl ⟨(Calls.cons V vA Calls.nil),CallsR.nil,(λ_=>e.bf),i⟩ (by apply DL.ok_earliest<;>rfl);have C:GFn P w K mg d 29 "ends_all" 2 (Γ 96):=zab (Γ:=Γ) (k:=28) a6 X G zpt zqy zpk rfl ⟨(Calls.cons g vA (Calls.cons o vA Calls.nil)),CallsR.nil,(λh=>nomatch h),i⟩ (by apply DL.ok_ends_all<;>rfl);have a3:GFn P w K mg d 30 "shares_of" 1 (Γ 126):=zab (Γ:=Γ) (k:=29) a2 X G znk zoz znb rfl ⟨(Calls.cons g vA (Calls.cons m vA Calls.nil)),CallsR.nil,(λ_=>e.bf),i⟩ (by apply DL.ok_shares_of<;>rfl);have ao:GFn P w K mg d 31 "edge_by" 2 (Γ 99):=zab (Γ:=Γ) (k:=30) aj X G zuk zvd ztx rfl ⟨(Calls.cons l vA (Calls.cons j vA Calls.nil)),CallsR.nil,(λ_=>e.bf),i⟩ (by apply DL.ok_edge_by<;>rfl);have ar:GFn P w K mg d 32 "over" 2 (Γ 20):=zab (Γ:=Γ) (k:=31) aP X G ykd yop yja rfl ⟨(Calls.cons U vA Calls.nil),CallsR.nil,(λh=>nomatch h),i⟩ (by apply DL.ok_over<;>rfl);have Y:GFn P w K mg d 33 "meeting" 3 (Γ 98):=zab (Γ:=Γ) (k:=32) ak X G zui zvb ztv rfl ⟨(Calls.cons ao vA (Calls.cons aa vA (Calls.cons l vA (Calls.cons j vA (Calls.cons ar vA Calls.nil))))),CallsR.nil,(λ_=>e.bf),i⟩ (by apply DL.ok_meeting<;>rfl);have aT:GFn P w K mg d 34 "fit" 2 (Γ 125):=ymq (k:=33) (n:=6) aS X G sc_fit rfl bd_fit sh_fit (r.mono vA) (aq.mono vA) ⟨(Calls.cons B vA (Calls.cons C vA (Calls.cons o vA (Calls.cons U vA (Calls.cons a3 vA (Calls.cons Y vA Calls.nil)))))),CallsR.nil,(λ_=>e.bf),i⟩ (ymt rfl rfl rfl rfl rfl rfl);have af:GFn P w K mg d 35 "_law_less" 2 (Γ 110):=zab (Γ:=Γ) (k:=34) a7 X G zps zqx zpj rfl ⟨Calls.nil,CallsR.nil,(λh=>nomatch h),i⟩ (by apply DL.ok_law_less<;>rfl);have A:GFn P w K mg d 36 "_law_times" 2 (Γ 74):=zab (Γ:=Γ) (k:=35) u X G zgt zgy zgq rfl ⟨(Calls.cons f vA Calls.nil),CallsR.nil,(λh=>nomatch h),i⟩ (by apply DL.ok_law_timesR<;>rfl);have aL:GFn P w K mg d 37 "alike" 2 (Γ 132):=zab (Γ:=Γ) (k:=36) aG X G yda ygk yce rfl ⟨(Calls.cons ar vA (Calls.cons l vA (Calls.cons a9 vA (Calls.cons a0 vA Calls.nil)))),CallsR.nil,(λh=>nomatch h),i⟩ (by apply DL.ok_alike<;>rfl);have ap:GFn P w K mg d 38 "doubled" 1 (Γ 58):=zab (Γ:=Γ) (k:=37) am X G zul zve zty rfl ⟨(Calls.cons ab vA (Calls.cons l vA (Calls.cons j vA (Calls.cons q vA Calls.nil)))),CallsR.nil,(λh=>nomatch h),i⟩ (by apply DL.ok_doubled<;>rfl);have ag:GFn P w K mg d 39 "meetings" 2 (Γ 100):=zab (Γ:=Γ) (k:=38) a8 X G zpr zqw zpi rfl ⟨(Calls.cons Y vA Calls.nil),CallsR.nil,(λh=>nomatch h),i⟩ (by apply DL.ok_meetings<;>rfl);have av:GFn P w K mg d 40 "pushes" 2 (Γ 101):=yeu (k:=39) (n:=1) au X G zwo rfl yax zwl (r.mono vA) (aq.mono vA) ⟨(Calls.cons B vA (Calls.cons V vA (Calls.cons C vA (Calls.cons ag vA Calls.nil)))),CallsR.nil,(λ_=>e.bf),i⟩ (ydk rfl rfl rfl rfl);exact⟨(Calls.cons S vA (Calls.cons z vA (Calls.cons a0 vA (Calls.cons a9 vA (Calls.cons f vA (Calls.cons aT vA (Calls.cons af vA (Calls.cons A vA (Calls.cons aL vA (Calls.cons ap vA (Calls.cons av vA Calls.nil))))))))))),CallsR.nil,(λh=>nomatch h),i⟩
end
def walk{l:PySem.W.OpenLaw}{q:Program}{g:List Str}{r:(Str->Option Value)->Heap->Prop}{m:World->Heap->Prop}{d:DefRec}{K:Params->vE}(t:l.most=some 63)(j:d.params.defaults=[])
 (v:∀(w:World) (h:Heap),m w h->(K w.params).In h)
 (F:∀(w:World) (i:Str->Option Value) (o:Addr) (h:Heap),(K w.params).In h->h.Ns mainGlobals i->i d.name=some (.ref o) →
   ∃p:FuncData,(∀(s:Shared) (u:Value),BindsTo s p ⟨[u],[]⟩ [("_law_script",u)]) ∧ ∀e:Heap,(K w.params).In e->e.Ns mainGlobals i->FnOk l.prog w (K w.params) i e CX0 41 o p ["_law_script"] (spD (K w.params) 1 (run Γ zbe 10))):
  PySem.W.WalkO q g r m l.row.toRowW d [] (λf A=>PySem.call f A):=
 L2.walk_of (n:=63) (k:=41) (x := "_law_script") (CX:=λ_=>CX0) (sp:=λw=>spD (K w.params) 1 (run Γ zbe 10)) t vA j ⟨rfl,by decide,by decide⟩ v F (λ_ H a B C _ hS=>yen yem H a B C hS) λ_ _ _ _ _ z=>z
end LW
open PySem PySem.W PyProof.Rows
/-! size: the head lays twins of its constants; where these names stand it goes on without -/
namespace PySem.W.Fast
def tw11475341617612981790:=Nat
def tw7827823347694129437:=Nat
def tw7302443320428677940:=Nat
def tw4271448869384133432:=Nat
def tw2262918920253712098:=Nat
def tw12004778679379625898:=Nat
def tw17964194926371836495:=Nat
def tw5792068243542085073:=Nat
def tw7248455427567967320:=Nat
def tw17624172338271506669:=Nat
def tw1377055360432419211:=Nat
def tw8857240301969626307:=Nat
def tw18218855717265537178:=Nat
def tw5396113704924179176:=Nat
def tw18348545881404962679:=Nat
def tw3078301608371486014:=Nat
def tw10419125823493728785:=Nat
def tw16202598938210907074:=Nat
def tw10070874324121725342:=Nat
def tw8285722637064541320:=Nat
def tw6124991022429233989:=Nat
def tw11105804619463815227:=Nat
def tw10797923330528038154:=Nat
def tw14386211064402427142:=Nat
def tw11464682978727347667:=Nat
def tw11597812893369201552:=Nat
def tw12585312437214627803:=Nat
def tw13753042103952711144:=Nat
def tw8346178862853526956:=Nat
def tw11998391127596637596:=Nat
def tw11643397768836873697:=Nat
def tw12495950598465905564:=Nat
def tw1636211150467529129:=Nat
def tw10085603391907717891:=Nat
def tw6480082784355391505:=Nat
def tw15418180111673857809:=Nat
def tw12851950220124879759:=Nat
def tw13547664425036749694:=Nat
def tw16747482261815080921:=Nat
def tw15883613737854061992:=Nat
def tw12647460385080572065:=Nat
def tw5412979433037837814:=Nat
def tw8225420683390867953:=Nat
def tw5577510284321587630:=Nat
def tw11465534930405175851:=Nat
def tw10571218150718591766:=Nat
def tw14970730223514302533:=Nat
def tw4327958541097082086:=Nat
def tw1246661794405674761:=Nat
def tw7781932762156968038:=Nat
def tw9131549493809412129:=Nat
def tw6447637080276994515:=Nat
def tw8143235023722575829:=Nat
def tw17736628289917309340:=Nat
def tw1458560177891248061:=Nat
def tw17356772364082922140:=Nat
def tw12731913205507327869:=Nat
def tw17329902549477606046:=Nat
def tw13724445923185217347:=Nat
def tw166858095986156025:=Nat
def tw2938466592886277340:=Nat
def tw1464177172177158479:=Nat
def tw7237155750628257105:=Nat
def tw16744702450259254789:=Nat
def tw7079035640184511868:=Nat
def tw3294182688548276694:=Nat
def tw6014714066096677526:=Nat
def tw17405183694838863368:=Nat
def tw1835036542801795713:=Nat
def tw2420475990301887919:=Nat
def tw13097239654230522116:=Nat
def tw1397931716306886167:=Nat
def tw6303844921428664897:=Nat
def tw1156147004417203109:=Nat
def tw16283344167266105768:=Nat
def tw7800683109329637626:=Nat
def tw10939296851238894737:=Nat
def tw7429429478193212929:=Nat
def tw8370306523406090647:=Nat
def tw6844863561922365468:=Nat
def tw1964369036076676864:=Nat
def tw8425027027477183887:=Nat
def tw152373942050031662:=Nat
def tw9504405626947030823:=Nat
def tw15835384878386672750:=Nat
def tw10370276671222591522:=Nat
def tw6886328698752624706:=Nat
def tw11494111028476992984:=Nat
def tw3457531705741542428:=Nat
def tw8025868436584565083:=Nat
def tw657951729260656319:=Nat
def tw7215963099664040448:=Nat
def tw10739760413565608724:=Nat
def tw6878009614128641051:=Nat
def tw11691621246653680360:=Nat
def tw7854287372507400592:=Nat
def tw14662543500179474965:=Nat
def tw15152415235460286312:=Nat
def tw8697577653584650226:=Nat
def tw17187647805099408827:=Nat
def tw7796404929037204262:=Nat
def tw9502993841705164132:=Nat
def tw7461116354704055674:=Nat
def tw13089439648760405665:=Nat
def tw8259090343446792271:=Nat
def tw10134644169167788310:=Nat
def tw8708385211651994317:=Nat
def tw560202868942125104:=Nat
def tw14452253177304319808:=Nat
def tw900705064145071967:=Nat
def tw699646764665304352:=Nat
def tw10842872913033897713:=Nat
def tw438225870892014773:=Nat
def tw14780969073460631811:=Nat
def tw6248100829565731684:=Nat
def tw7843451585644625257:=Nat
def tw8275214348784145545:=Nat
def tw10653773762630337909:=Nat
def tw9493131291869740676:=Nat
def tw7457080881991091082:=Nat
def tw11598527947539353216:=Nat
def tw6288521067883091785:=Nat
def tw11070123355133828118:=Nat
def tw10951235590573990956:=Nat
def tw12812358732262929988:=Nat
def tw15537880159220216024:=Nat
def tw8601640025146658313:=Nat
def tw4511108695337068742:=Nat
def tw12196949968088582619:=Nat
def tw9990221263992196316:=Nat
def tw9569701106804015225:=Nat
def tw11040239119143451261:=Nat
def tw12938340244829863860:=Nat
def tw5270051353142631385:=Nat
def tw8910845741278867321:=Nat
def tw4755206343564869241:=Nat
def tw7298365684374095784:=Nat
def tw17386194853277693392:=Nat
def tw1337266772602208282:=Nat
def tw4817767617509245798:=Nat
def tw10201165584753740905:=Nat
def tw11644871618445512743:=Nat
def tw5385636394428984344:=Nat
def tw10087285716946368155:=Nat
def tw2116329694987054529:=Nat
def tw101591235964794946:=Nat
def tw15748308817037558883:=Nat
def tw1359421090137401714:=Nat
def tw6538910030876345741:=Nat
def tw13089007324727747590:=Nat
end PySem.W.Fast
set_option maxRecDepth 100000 in
set_option maxHeartbeats 0 in
theorem PySem.Challenge.cw_snugfit_k51_whole_factors_holds : PySem.Challenge.rw_snugfit_k51_whole_factors.Holds := by
 w_on;o_law;k_head;(case hw=>w_witness2)
 k_fill
 refine LW.walk (l:=PySem.Challenge.rw_snugfit_k51_whole_factors) rfl rfl (fun w h Y=>PySem.W.kIn_of Y) ?F
 case F=>
  intro w mg fa h KX G hmg;refine' LW.all_mk KX G hmg ?_ ?_ ?_ ?_ ?_ ?_ ?_ ?_ ?_ ?_ ?_ ?_ ?_ ?_ ?_ ?_ ?_ ?_ ?_ ?_ ?_ ?_ ?_ ?_ ?_ ?_ ?_ ?_ ?_ ?_ ?_ ?_ ?_ ?_ ?_ ?_ ?_ ?_ ?_ ?_ ?_ ?_ ?_ ?_ ?_ ?_ ?_ ?_ ?_ ?_ ?_ ?_ ?_ ?_ ?_ ?_ ?_ ?_
  all_goals first|(refine' DL.at_mk ?a ?l ?c ?k;(case a=>k_is);(case l=>k_is);(case c=>k_is);(case k=>k_is))|(refine' DL.atc_mk ?a ?m2 ?c1 ?c2 ?c3 ?c4 ?n1 ?n2 ?n3 ?n4 ?m1 ?m3 ?m4 ?l ?c ?k;(case a=>k_is);(case m2=>k_is);(case c1=>k_is);(case c2=>k_is);(case c3=>k_is);(case c4=>k_is);(case n1=>k_is);(case n2=>k_is);(case n3=>k_is);(case n4=>k_is);(case m1=>k_is);(case m3=>k_is);(case m4=>k_is);(case l=>k_is);(case c=>k_is);(case k=>k_is))|k_is
#print axioms PySem.Challenge.cw_snugfit_k51_whole_factors_holds

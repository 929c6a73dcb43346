import PyProof.Rows.All
import Wide.All
import OpenK.AllK
import Wide.FinOn
import Lean
import PyProof.EqAt
import PyProof.EqKinds
import PyProof.TupleCall
import PyProof.P3In
import PyProof.Rows.EqDataRows
import KE.KTryMore
import PyProof.SetScanFacts
import PyProof.Rows.SetFrom
import PyProof.SetRoads
import KE.KSortAsk
import KE.KSortTup
import KE.KRevIter
import PyProof.ZipIter
import PySem.Challenge.RW_snugfit_k41_whole_fit
set_option Elab.async false
set_option linter.all false
set_option maxRecDepth 100000
set_option maxHeartbeats 8000000
set_option compiler.extract_closed false
noncomputable section
set_option genSizeOf false
set_option genInjectivity false
local macro_rules | `(tactic| omega) => `(tactic| first | (with_reducible assumption) | (with_reducible refine Nat.le_trans (by assumption) ?_; decide) | (with_reducible refine Nat.lt_of_lt_of_le ?_ (by assumption); decide) | lia)
open PySem.W renaming Frag→vE
set_option hygiene false in
local macro_rules|`(~~~$x)=>`(some (.sh $x))|`(∅)=>`(List D->Option W)
local macro_rules|`(#v[$xs,*])=>do let r:Lean.TSyntax `term<-xs.getElems.foldrM (λ x a=>`(.cons $x $a)) (<-`(.nil));return r
theorem vA{p:Prop}(h:p:=by decide):p:=h
theorem vB{p:Prop}(h:p:=by omega):p:=h
theorem vC{p:Prop}(h:p:=by simp):p:=h
theorem vD{p:Prop}(h:p:=by exact ⟨rfl,rfl,rfl,by decide +kernel,rfl,by decide +kernel,by decide +kernel⟩):p:=h
open Option renaming bind_eq_some_iff→Za,map_eq_some_iff→Zb,bind_some→Ya,map_some→Y7,getD_some→Je,bind_none→Um,isSome_iff_exists→U7,getD_none→Gj
open PySem renaming wpAny_bind→Zc,wpAny_pure→Zp,wpAny_field→Y5,wpAny_seqItems→Wc,wpAny_holding→Ws,wpAny_call_entry→Qr,wpAny_setField_rec→Qw,wpAny_Call_Name_kw→Qx,wpAny_updateSeq→Q1,wpAny_passesOwn→Q2,wpAny_truthy_bool→Q7,mem_of_lookup→Q8,plainId_quiet→Ki,codeAny_builtin→Kj,sizeLine_eq→Ku,wpAny_letGo→Ja,sizeLine_eq→Jb,wpAny_rule→Jk,wpAny_newObj_type→Jl,wpAny_nextOf_list_item→Jx,wpAny_execs_nil→J2,wpAny_mono→Ua,wpAny_tryCatch→Ul,wpAny_standAt→Ut,wpAny_attempt→Uu,wpAny_pyIter_list→U3,call_meets→U4,codeAny_mono→Vd,wpAny_pyIter_zip→Vh,wpAny_eqBool_int→Vi,wpAny_newTuple→Vz,wpAny_comprehension_free→V9,wpAny_onRaise→Gf,wpAny_newList→Gg,wpAny_nextOf_list_end→G0,seqIndex_neg→G5,builtinLookup_eq_fast→G6
open List renaming length_map→Zd,mem_cons→Zg,getElem?_eq_getElem→Zh,getElem?_map→Zi,size_toArray→Zl,not_mem_nil→Zn,getElem?_eq_some_iff→Zo,length_cons→Zq,mem_singleton→Zs,getD_eq_getElem?_getD→Zx,map_cons→Zz,mem_map→Z5,length_append→Z7,length_range→Z8,getElem?_append_right→Yb,map_map→Yd,mem_of_getElem?→Yg,mem_append→Yh,getElem?_set_ne→Yi,mem_append_right→Yj,map_append→Yl,length_drop→Yo,getElem?_eq_none→Yp,getElem?_append_left→Yt,getElem?_set_self→Yu,mem_cons_of_mem→Yv,length_replicate→Yy,pairwise_cons→Y3,pairwise_singleton→Y8,getElem?_replicate→Y9,getElem?_cons_succ→Wa,length_take→Wb,mem_map_of_mem→We,sum_cons→Wf,pairwise_iff_getElem→Wg,mem_cons_self→Wi,nodup_cons→Wq,length_set→Wr,map_nil→Wy,all_cons→Wz,mem_range→W8,pairwise_map→Qb,ext_getElem?→Qc,map_congr_left→Qg,length_reverse→Qh,getElem?_cons_zero→Qi,lookup_cons→Ql,mem_append_left→Qy,getElem?_of_mem→Qz,take_succ→Q4,getElem?_zip_eq_some→Q5,take_length→Q9,getElem_mem→Ka,sum_nil→Ko,getElem_inj→Kt,length_nil→Kx,getElem?_range→Ky,forIn_cons→Kz,filterMap_cons→K0,append_nil→K3,drop_eq_getElem_cons→K8,getElem?_take_of_lt→Jd,mem_reverse→Jh,take_of_length_le→Jj,length_zip→Jm,pairwise_append→Jv,forIn_nil→Jz,getElem_of_mem→J1,mem_filterMap→Ub,length_zipIdx→Uc,getElem?_drop→Ud,findIdx?_eq_some_iff_getElem→Ue,eraseIdxIfInBounds_toArray→Uo,getElem_map→Ur,all_eq_true→Us,sum_append→U0,of_mem_zip→U1,nodup_iff_pairwise_ne→U9,map_drop→Vo,length_eq_zero_iff→Vp,length_singleton→Vu,getElem?_reverse→Vv,eraseIdx_sublist→Vw,dropLast_eq_take→Vx,replicate_succ→Ga,length_pos_iff→Gb,reverse_cons→Gw,nodup_append→Gx,zipIdx_cons→G8,drop_length→G9
open PySem.Heap renaming get?_push_of_some→Ze,lt_size→Zm,get?_push_size→Zv,get?_update_other→Yn,get?_update_self→Wh,size_push→Qn,size_update→Kb,get?_none_of_le→Jw
open Nat renaming lt_of_lt_of_le→Zf,le_refl→Zk,mod_eq_of_lt→Zt,ne_of_gt→Z3,ne_of_lt→Yc,lt_or_ge→Yf,lt_of_le_of_lt→Yw,zero_le→Yz,le_trans→Wd,lt_succ_self→Wj,lt_irrefl→Wm,zero_add→Wo,add_mod_right→Wp,le_add_right→Qm,mod_lt→Qp,mod_add_mod→Qu,lt_succ_of_lt→Km,mod_eq_sub_mod→K7,le_succ→Jg,succ_pos→Jq,mod_self→Jr,min_eq_left→Js,eq_zero_or_pos→Uh,le_of_lt→Uq,succ_ne_self→Ux,add_mod→U8,pow_succ→V3,le_of_eq→V4,add_comm→V5,mod_mod→Gk,add_sub_assoc→G7
open Bool renaming and_eq_true→Zj,false_ne_true→Zr,false_eq_true→Y4,eq_iff_iff→K4,or_eq_true→Jo,beq_eq_decide_eq→Vy,eq_false_iff→Gz
open Int renaming natAbs_mul→Zu,mul_fdiv_cancel_left→Zw,toNat_natCast→Z1,natAbs_natCast→Yk,mul_ne_zero→Ym,natCast_nonneg→Yr,mul_nonneg→Yx,gcd_dvd_right→Y0,dvd_trans→Y6,mul_pos→Wk,gcd_dvd_left→Wl,emod_nonneg→Wu,mul_nonpos_of_nonneg_of_nonpos→Ww,le_of_lt→W4,gcd_eq_one_iff→W5,natAbs_mul_self'→Qd,mul_le_mul_of_nonneg_right→Qj,dvd_coe_gcd→Qv,fmod_eq_emod_of_nonneg→Q0,gcd_mul_right_right_of_gcd_eq_one→Q3,mul_comm→Kc,dvd_mul_of_dvd_right→Kd,emod_lt_of_pos→Kg,not_lt→Kn,natAbs_neg→Kq,eq_of_mul_eq_mul_right→K5,gcd_comm→K9,eq_one_of_dvd_one→Jt,mul_dvd_mul_left→J0,mul_one→J3,mul_assoc→Ui,lt_irrefl→Uj,natCast_pos→Va,mul_eq_zero→Vb,fdiv_eq_ediv_of_nonneg→Vf,mul_neg_of_pos_of_neg→Vk,zero_dvd→V6,zero_add→V7,natAbs_dvd_natAbs→V8,one_mul→Gm,le_refl→Gn,natAbs_add_le→Ba,lt_trichotomy→Bb,emod_eq_of_lt→Bc
open Rat renaming intCast_mul→Zy,mul_nonneg→Z4,mul_pos→Z6,intCast_lt_intCast→Z9,le_of_lt→Ye,num_divInt_den→Yq,mul_inv_cancel→W3,intCast_eq_zero_iff→Qk,intCast_sub→Qt,sub_eq_add_neg→Ke,mul_eq_zero→Kf,le_refl→Kk,div_def→Kl,divInt_add_divInt→Kr,mul_assoc→Kw,le_trans→K6,inv_pos→Jf,divInt_mul_divInt→Jp,inv_mul_cancel→Ug,divInt_eq_div→Up,intCast_add→U5,mkRat_self→Vj,divInt_eq_divInt_iff→Vn,intCast_le_intCast→Vs,mul_comm→V0,one_mul→Gh,intCast_natCast→Gi,div_mul_cancel→Gu
open Option.some renaming inj→Z0
open PyProof.Rows renaming callWith_type1→Ys,listUpdate_at→Uv,assignInOrder_cons→Uw,subscriptTail_builtinR→Gq
open Ne renaming symm→Wn
open Classical renaming byContradiction→Wv
open Prod renaming ext→Wx
open Array renaming getElem?_eq_getElem→W6,getElem_toList→Qa,length_toList→Qf,toList_inj→Ks,mem_toList_iff→Ju,getElem?_toList→Vr,forIn_toList→Ge
open PySem.Around renaming under_plainId→W9,in1_units→Gp
open PySem.F renaming slot_zip_next→Qe,plain_extend_loop→Qo,plain_min_loop→Qq,slot_tuple_iterator_next→Q6,plainAttrs_list→Jc,args_zip_next_1→Ji,entry_zip_next→Jn,entry_extend_loop→Uk,plainAttrs_list→Uy,slot_list_index→U6,entry_min_loop→Vc,args_tuple_iterator_next_1→Vg,slot_list_pop→Vl,entry_tuple_iterator_next→Vm
open List.Pairwise renaming imp_of_mem→Qs
open PySem.Heap.SameBut renaming update→Kh
open PySem.W renaming kia_one→Kv,mg_of→Jy,cellsFrom_some→Ve,callWith_K→Vt
open PySem.Value renaming isInt_shape→Uf
open PySem.AutoSeq1 renaming wpAny_loadPart'→Uz
open PySem.Calls renaming Name_function_global→U2,callWith_builtin→Vq,spliced_cons→Gd,spliced_nil→Go
open List.Perm renaming refl→Gc
open PySem.Obj renaming data_mapFields→Gv
open Decidable renaming em→Gy
namespace L2
open PySem PySem.Spec PyProof.Rows
abbrev Key:=Sum Int Str
def keyIs:Key->Value->Bool
 |.inl k,v=>Value.isInt k v
 |.inr x,v=>Value.isStrOf x v
def keyH(w:World):Key->Int
 |.inl k=>hashInt k
 |.inr x=>hashStr w x
theorem zai:∀{k:Key}{v:Value},keyIs k v=true->(∃i t,k=Sum.inl i/\v=Value.int i t)\/(∃x t,k=Sum.inr x/\v=Value.str x t)
 |.inl i,v,h=>by
  obtain⟨t,e⟩:=Uf (k:=i) (v:=v) h
  exact .inl ⟨i,t,rfl,e⟩
 |.inr x,v,h=>by
  obtain⟨t,e⟩:=Value.isStrOf_shape (x:=x) (v:=v) h
  exact .inr ⟨x,t,rfl,e⟩
def key_ll(a b:Int):decide ((Sum.inl a:Key)=Sum.inl b)=(a == b):=by
 by_cases e:a=b
 ·subst e;simp
 ·have h:¬(Sum.inl a:Key)=Sum.inl b:=λq=>e (Sum.inl.inj q)
  rw[decide_eq_false h];exact(beq_eq_false_iff_ne.mpr e).symm
def key_rr(a b:Str):decide ((Sum.inr a:Key)=Sum.inr b)=decide (a=b):=by
 by_cases e:a=b
 ·subst e;simp
 ·have h:¬(Sum.inr a:Key)=Sum.inr b:=λq=>e (Sum.inr.inj q)
  rw[decide_eq_false h,decide_eq_false e]
def key_lr(a:Int)(b:Str):decide ((Sum.inl a:Key)=Sum.inr b)=false:=decide_eq_false (λq=>nomatch q)
def key_rl(a:Str)(b:Int):decide ((Sum.inr a:Key)=Sum.inl b)=false:=decide_eq_false (λq=>nomatch q)
def zxt(d:Program)(w:World):PySem.KeyKind d w Key where
 is:=keyIs
 hash:=keyH w
 inj:=λv a b m l=>by
  rcases zai m with⟨i,t,rfl,rfl⟩|⟨x,t,rfl,rfl⟩
  ·rcases zai l with⟨j,u,rfl,e⟩|⟨y,u,rfl,e⟩
   ·injection e with f _;rw[f]
   ·exact nomatch e
  ·rcases zai l with⟨j,u,rfl,e⟩|⟨y,u,rfl,e⟩
   ·exact nomatch e
   ·injection e with f _;rw[f]
 byValue:=λk v h=>by
  rcases zai h with⟨i,t,rfl,rfl⟩|⟨x,t,rfl,rfl⟩<;>rfl
 pyHash:=λg h=>by
  rcases zai g with⟨i,t,rfl,rfl⟩|⟨x,t,rfl,rfl⟩
  ·exact wpAny_pyHash_int h
  ·exact wpAny_pyHash_str h
 eqBool:=λn g h=>by
  rcases zai n with⟨i,t,rfl,rfl⟩|⟨x,t,rfl,rfl⟩
  ·rcases zai g with⟨j,u,rfl,rfl⟩|⟨y,u,rfl,rfl⟩
   ·rw[key_ll] at h;exact Vi h
   ·rw[key_lr] at h;exact SeqAt.EqAt.int_str i t y u _ _ _ _ h
  ·rcases zai g with⟨j,u,rfl,rfl⟩|⟨y,u,rfl,rfl⟩
   ·rw[key_rl] at h;exact SeqAt.EqAt.str_int x t j u _ _ _ _ h
   ·rw[key_rr] at h;exact wpAny_eqBool_str h
 «strs» := λk x t v h=>by
  rcases zai h with⟨i,u,rfl,e⟩|⟨y,u,rfl,e⟩
  ·exact nomatch e
  ·injection e with f _
   subst f;cases v<;>rfl
end L2
namespace L2
open PySem PySem.Spec PyProof.Rows
set_option genInjectivity true in
inductive V where
 |non|bl (b:Bool)|int (i:Int)|str (x:Str)|byt (b:Array UInt8)|flt (b:UInt64)|ref (a:Addr)|ty (n:String)
 deriving DecidableEq
def RelV:V->Value->Prop
 |.non,u=>u=Value.none
 |.bl b,u=>u=Value.bool b
 |.int i,u=>∃t,u=Value.int i t
 |.str x,u=>∃t,u=Value.str x t
 |.byt b,u=>∃t,u=Value.bytes b t
 |.flt b,u=>∃t,u=Value.float b t
 |.ref a,u=>u=Value.ref a
 |.ty n,u=>u=Value.type n
abbrev Vals:List V->List Value->Prop:=Paired RelV
theorem Vals.length{d:List V}{e:List Value}(r:Vals d e):d.length=e.length:=Paired.length r
theorem Vals.get:∀{d:List V}{f:List Value}{i:Nat}{x:V},Vals d f->d[i]? = some x->∃u,f[i]? = some u/\RelV x u
 |_,_,_,_,.nil,e=>by simp at e
 |_,_,0,_,.cons r _,e=>by simp at e;subst e;exact⟨_,rfl,r⟩
 |_,_,i+1,x,.cons _ t,e=>by
  obtain⟨u,g,h⟩:=Vals.get (i:=i) (x:=x) t (by simpa using e)
  exact⟨u,by simpa using g,h⟩
theorem Vals.set{x:V}{u:Value}(r:RelV x u):∀{d:List V}{e:List Value}(i:Nat),Vals d e->Vals (d.set i x) (e.set i u)
 |_,_,_,.nil=>.nil
 |_,_,0,.cons _ t=>.cons r t
 |_,_,i+1,.cons q t=>.cons q (Vals.set r i t)
theorem Vals.append:∀{d e:List V}{f g:List Value},Vals d f->Vals e g->Vals (d++e) (f++g)
 |_,_,_,_,.nil,s=>s
 |_,_,_,_,.cons r t,s=>.cons r (Vals.append t s)
theorem Vals.take:∀{d:List V}{e:List Value}(n:Nat),Vals d e->Vals (d.take n) (e.take n)
 |_,_,0,_=>.nil
 |_,_,_+1,.nil=>.nil
 |_,_,n+1,.cons r t=>.cons r (Vals.take n t)
theorem Vals.drop:∀{d:List V}{e:List Value}(n:Nat),Vals d e->Vals (d.drop n) (e.drop n)
 |_,_,0,r=>r
 |_,_,_+1,.nil=>.nil
 |_,_,n+1,.cons _ t=>Vals.drop n t
def RelO:Option V->Option Value->Prop
 |some v,some u=>RelV v u
 |none,none=>True
 |_,_=>False
def KV{d:Type}:List (d×V)->List (d×Value)->Prop:=Paired λ(p:d×V) (q:d×Value)=>p.1=q.1/\RelV p.2 q.2
def kV:Key->V
 |.inl i=>.int i
 |.inr x=>.str x
inductive HO where
  |lst(xs:List V)
  |tup(xs:List V)
  |dK(kvs:List (Key×V))|dT(kvs:List (List Key×V))
  |set(S:Int->Bool)(n:Nat)
  |ins(C dx:Addr)(fs:List (Str×V))
  |own(x:Addr)
  |xd(fs:List (Str×V))
  |met(f x:Addr)
  |rng(lo hi:Int)
  |frz(o:Obj)(u:HO)
  |tbl(ps:Array Value)
  |ext(φ:Heap->Prop)
abbrev Hp:=Addr->Option HO
def upd(H:Hp)(a:Addr)(o:HO):Hp:=λb=>if b=a then some o else H b
def Bm{H:Hp}{a:Addr}{o:HO}:upd H a o a=some o:=by unfold upd;rw[if_pos rfl]
def Bk{H:Hp}{a b:Addr}{o:HO}(h:b≠a):upd H a o b=H b:=by unfold upd;rw[if_neg h]
def zla{H:Hp}{a:Addr}{o u:HO}:upd (upd H a o) a u=upd H a u:=by
 funext b;unfold upd;split<;>rfl
def zcs{H:Hp}{a b:Addr}{o:HO}(h:H a=some o)(d:H b=none):a≠b:=by
 intro e;subst e;rw[h] at d;cases d
section
variable(P:Program)(w:World)
def ObjOk(H:Hp)(h:Heap)(a:Addr):HO->Prop
 |.lst g=>g.length<=sizeLine/\∃(d:List Value) (n:Nat),Vals g d/\h.get? a=some {cls:=.type "list",data:=.seq d.toArray n}
 |.tup g=>g.length<=sizeLine/\∃d:List Value,Vals g d/\IsTup h a d.toArray
 |.dK e=>e.length<=sizeLine/\(a == sysModules)=false/\∃r,KV e r/\h.DictOf (zxt P w) a r
 |.dT e=>e.length<=sizeLine/\(a == sysModules)=false/\∃g:List (List Key×Addr×Value),
   Paired (λ(p:List Key×V) (q:List Key×Addr×Value)=>p.1=q.1/\H q.2.1=some (.tup (p.1.map kV))/\RelV p.2 q.2.2) e g /\
   ∃o s B,h.get? a=some o/\o.ExactDict/\o.data=.dict s B/\s.toList=g.map (entryOfKey (tupleKind (zxt P w)))/\(g.map (·.1)).Nodup
 |.set S n=>h.SetOf (intKind P w) a S n
 |.ins C l j=>H l=some (.own a)/\j.length<=1000/\l≠a/\h.get? a=some (PySem.W.instObj C l) /\
   ∃i,h.Ns1 l i/\(∀f,RelO (j.lookup f) (i f))/\PySem.Within i (j.map (·.1))
 |.own _=>∃o,h.get? a=some o
 |.xd j=>∃i,h.Ns1 a i/\∀f,RelO (j.lookup f) (i f)
 |.rng lo D=>∃t u v,h.get? a=some {cls:=.type "range",data:=.fields #[.int lo t,.int D u,.int 1 v]}
 |.frz o u=>h.get? a=some o/\ObjOk H h a u
 |.tbl ps=>h.get? a=some {cls:=.none,data:=.fields ps}
 |.met f x=>h.get? a=some (PySem.W.methodObj (.ref f) (.ref x))
 |.ext m=>m h/\(∃o,h.get? a=some o)/\∀z A:Heap,m z->(∀o,z.get? a=some o->A.get? a=some o)->m A
def HOk(H:Hp)(h:Heap):Prop:=∀a o,H a=some o->ObjOk P w H h a o
end
section
variable{P:Program}{w:World}{H H':Hp}{h h':Heap}{a:Addr}{o:HO}
theorem ObjOk.lt(x:ObjOk P w H h a o):a<h.objs.size:=by
 cases o with
 |lst g=>obtain⟨_,_,_,_,e⟩:=x;exact Zm e
 |tup g=>obtain⟨_,_,_,p⟩:=x;exact p.lt
 |dK d=>obtain⟨_,_,_,_,o,_,_,e,_⟩:=x;exact Zm e
 |dT d=>obtain⟨_,_,_,_,o,_,_,e,_⟩:=x;exact Zm e
 |set S n=>obtain⟨o,_,_,_,e,_⟩:=x;exact Zm e
 |ins C j i=>obtain⟨_,_,_,e,_⟩:=x;exact Zm e
 |own y=>obtain⟨_,e⟩:=x;exact Zm e
 |xd i=>obtain⟨_,⟨_,_,_,e,_⟩,_⟩:=x;exact Zm e
 |rng lo l=>obtain⟨_,_,_,e⟩:=x;exact Zm e
 |frz m u=>obtain⟨e,_⟩:=x;exact Zm e
 |tbl ps=>exact Zm (show h.get? a=some _ from x)
 |met f y=>exact Zm (show h.get? a=some _ from x)
 |ext q=>obtain⟨_,⟨_,e⟩,_⟩:=x;exact Zm e
def Paired.mapP{g i:Type}{F G:g->i->Prop}:∀{d:List g}{e:List i},Paired F d e->(∀a b,F a b->G a b)->Paired G d e:=λh f=>by
 induction h with
 |nil=>exact .nil
 |cons r t j=>exact .cons (f _ _ r) j
def ObjOk.stay(x:ObjOk P w H h a o)(k:∀b u,(b=a\/H b=some (.own a))->h.get? b=some u->h'.get? b=some u)
 (D:∀b,H b=some (.own a)->H' b=some (.own a))(E:∀b m,H b=some (.tup m)->H' b=some (.tup m)):ObjOk P w H' h' a o:=by
 induction o with
 |lst m=>obtain⟨z,l,n,r,e⟩:=x;exact⟨z,l,n,r,k _ _ (.inl rfl) e⟩
 |tup m=>obtain⟨z,l,r,g,e,c⟩:=x;exact⟨z,l,r,g,k _ _ (.inl rfl) e,c⟩
 |dK s=>obtain⟨z,y,F,r,g,i,j,e,c⟩:=x;exact⟨z,y,F,r,g,i,j,k _ _ (.inl rfl) e,c⟩
 |dT s=>
  obtain⟨z,y,m,r,g,i,j,e,c⟩:=x
  exact⟨z,y,m,Paired.mapP r λp q z=>⟨z.1,E _ _ z.2.1,z.2.2⟩,g,i,j,k _ _ (.inl rfl) e,c⟩
 |set S n=>obtain⟨g,i,j,t,e,c⟩:=x;exact⟨g,i,j,t,k _ _ (.inl rfl) e,c⟩
 |ins C L G=>
  obtain⟨d,z,I,e,A,⟨B,i,j,J,c⟩,r⟩:=x
  exact⟨D _ d,z,I,k _ _ (.inl rfl) e,A,⟨B,i,j,k _ _ (.inr d) J,c⟩,r⟩
 |own y=>obtain⟨g,e⟩:=x;exact⟨g,k _ _ (.inl rfl) e⟩
 |xd G=>obtain⟨A,⟨B,i,j,e,c⟩,r⟩:=x;exact⟨A,⟨B,i,j,k _ _ (.inl rfl) e,c⟩,r⟩
 |rng lo M=>obtain⟨t,u,v,e⟩:=x;exact⟨t,u,v,k _ _ (.inl rfl) e⟩
 |frz g u K=>obtain⟨e,q⟩:=x;exact⟨k _ _ (.inl rfl) e,K q⟩
 |tbl ps=>
  have e:h.get? a=some {cls:=.none,data:=.fields ps}:=x;show h'.get? a=some {cls:=.none,data:=.fields ps};exact k a _ (.inl rfl) e
 |met f y=>
  have e:h.get? a=some (PySem.W.methodObj (.ref f) (.ref y)):=x;show h'.get? a=some (PySem.W.methodObj (.ref f) (.ref y));exact k a _ (.inl rfl) e
 |ext N=>obtain⟨p,⟨o,e⟩,st⟩:=x;exact⟨st _ _ p λo q=>k _ _ (.inl rfl) q,⟨o,k _ _ (.inl rfl) e⟩,st⟩
theorem HOk.lt(x:HOk P w H h)(e:H a=some o):a<h.objs.size:=(x a o e).lt
def HOk.fresh(x:HOk P w H h)(e:h.objs.size<=a):H a=none:=by
 cases q:H a with
 |none=>rfl
 |some u=>exact absurd (Zf (x.lt q) e) (Wm _)
def HOk.kept(x:HOk P w H h)(k:∀b u,h.get? b=some u->h'.get? b=some u):HOk P w H h':=λa o e=>
 (x a o e).stay (λb u _ q=>k b u q) (λ_ q=>q) λ_ _ q=>q
def HOk.laid(x:HOk P w H h)(k:∀b u,h.get? b=some u->h'.get? b=some u)(i:h.objs.size<=a)(d:ObjOk P w (upd H a o) h' a o):HOk P w (upd H a o) h':=λb u e=>by
 have f:=x.fresh i;by_cases g:b=a
 ·subst g;rw[Bm] at e;cases e;exact d
 ·rw[Bk g] at e;exact(x b u e).stay (λc v _ q=>k c v q) (λc q=>by rw[Bk (zcs q f)];exact q) λc j q=>by rw[Bk (zcs q f)];exact q
end
def Rd(H:Hp)(a:Addr)(u:HO):Prop:=H a=some u\/∃o,H a=some (.frz o u)
def Rd.ok{P:Program}{w:World}{H:Hp}{h:Heap}{a:Addr}{u:HO}(r:Rd H a u)(x:HOk P w H h):ObjOk P w H h a u:=by
 rcases r with r|⟨o,r⟩
 ·exact x a u r
 ·obtain⟨_,q⟩:=x a _ r
  exact q
def Mut:Option HO->Prop
 |some (.lst _)=>True
 |some (.dK _)=>True
 |some (.dT _)=>True
 |some (.set _ _)=>True
 |some (.ins _ _ _)=>True
 |some (.ext _)=>True
 |_=>False
section
variable{P:Program}{w:World}{H:Hp}{h h':Heap}{x e:Addr}{o':HO}
def HOk.write(ok:HOk P w H h)(i:Mut (H x))(p:e=x\/H e=some (.own x))(k:∀b u,b≠e->h.get? b=some u->h'.get? b=some u)(n:∃u,h'.get? e=some u)
 (o:ObjOk P w (upd H x o') h' x o'):HOk P w (upd H x o') h':=λb u q=>by
 have f:∀c y,H c=some (.own y)->c≠x:=λc y r z=>by subst z;rw[r] at i;exact i
 have g:∀c j,H c=some (.tup j)->c≠x:=λc j r z=>by subst z;rw[r] at i;exact i
 by_cases l:b=x
 ·subst l;rw[Bm] at q;cases q;exact o
 ·rw[Bk l] at q;by_cases d:b=e
  ·have s:H b=some (.own x):=by
    rcases p with z|z
    ·exact absurd (d.trans z) l
    ·rw[d];exact z
   rw[q] at s;cases s;obtain⟨v,t⟩:=n
   exact⟨v,by rw[d];exact t⟩
  ·refine(ok b u q).stay (λc v m r=>k c v ?_ r) (λc r=>by rw[Bk (f c b r)];exact r) λc j r=>by rw[Bk (g c j r)];exact r
   rcases m with rfl|m
   ·exact d
   ·rintro rfl
    rcases p with z|z
    ·exact f c b m z
    ·rw[m] at z;cases z;exact l rfl
end
structure Un(fs ex:List Addr)(H H':Hp)(h h':Heap):Prop where
 keep:∀b o,h.get? b=some o->H b=none->b∉fs->b∉ex->h'.get? b=some o
 slot:∀b o,h.get? b=some o->H b=none->b∈fs->b∉ex->∃sl,h'.get? b=some {o with slots:=sl}
 free:∀b o,h.get? b=some o->H b=none->b∉ex->H' b=none
 there:∀b o,h.get? b=some o->b∉ex->∃o',h'.get? b=some o'
 tups:∀b xs,H b=some (.tup xs)->H' b=some (.tup xs)
 frzs:∀b o u,H b=some (.frz o u)->H' b=some (.frz o u)
 tbls:∀b ps,H b=some (.tbl ps)->∃more,H' b=some (.tbl (ps++more))
section
variable{fs fs' ex ex':List Addr}{H H1 H2:Hp}{h h1 h2 h':Heap}{a x e:Addr}{o:HO}
def Un.any(u:Un fs ex H H1 h h1){b:Addr}{d:Obj}(q:h.get? b=some d)(n:H b=none)(e:b∉ex):∃g,h1.get? b=some {d with slots:=g}:=by
 by_cases f:b∈fs
 ·exact u.slot b d q n f e
 ·exact⟨d.slots,u.keep b d q n f e⟩
def Un.kept(k:∀b u,h.get? b=some u->h'.get? b=some u):Un fs ex H H h h':=
 ⟨λb d q _ _ _=>k b d q,λb d q _ _ _=>⟨d.slots,k b d q⟩,λ_ _ _ n _=>n,λb d q _=>⟨d,k b d q⟩,λ_ _ q=>q,λ_ _ _ q=>q,λ_ e q=>⟨#[],by rw[q];simp⟩⟩
def Un.refl:Un fs ex H H h h:=Un.kept λ_ _ q=>q
def Un.laid(k:∀b u,h.get? b=some u->h'.get? b=some u)(e:h.objs.size<=a)(d:H a=none):Un fs ex H (upd H a o) h h' where
 keep:=λb u q _ _ _=>k b u q
 slot:=λb u q _ _ _=>⟨u.slots,k b u q⟩
 free:=λb u q n _=>by rw[Bk (Yc (Zf (Zm q) e))];exact n
 there:=λb u q _=>⟨u,k b u q⟩
 tups:=λb f q=>by rw[Bk (zcs q d)];exact q
 frzs:=λb u f q=>by rw[Bk (zcs q d)];exact q
 tbls:=λb g q=>⟨#[],by rw[Bk (zcs q d),q];simp⟩
def Un.write(f:Mut (H x))(m:e=x\/H e=some (.own x))(k:∀b u,b≠e->h.get? b=some u->h'.get? b=some u)(g:∃u,h'.get? e=some u):Un fs ex H (upd H x o) h h':=by
 have j:∀b,H b=none->b≠x:=λb n z=>by subst z;rw[n] at f;exact f
 have l:∀b,H b=none->b≠e:=λb n z=>by
  subst z;rcases m with r|r
  ·exact j b n r
  ·rw[n] at r;cases r
 have i:∀b u,H b=some u -> ¬Mut (some u)->b≠x:=λb u q p z=>by subst z;rw[q] at f;exact p f
 refine⟨λb u q n _ _=>k b u (l b n) q,λb u q n _ _=>⟨u.slots,k b u (l b n) q⟩,λb u q n _=>by rw[Bk (j b n)];exact n,λb u q _=>?_,
  λb s q=>by rw[Bk (i b _ q λz=>z)];exact q,λb u s q=>by rw[Bk (i b _ q λz=>z)];exact q,λb t q=>⟨#[],by rw[Bk (i b _ q λz=>z),q];simp⟩⟩
 by_cases d:b=e
 ·subst d;exact g
 ·exact⟨u,k b u d q⟩
end
def trk(h:Heap)(H:Hp):List Addr:=(List.range h.objs.size).filter λa=>(H a).isSome
def hidT(h:Heap)(H:Hp):Heap:=PySem.W.hideAll h (trk h H)
def zym(h:Heap)(H:Hp):(hidT h H).objs.size=h.objs.size:=PySem.W.hideAll_size _ _
def ydq{h:Heap}{H:Hp}{b:Addr}{o:Obj}(e:h.get? b=some o)(n:H b=none):(hidT h H).get? b=some o:=
 PySem.W.hideAll_get _ e λd=>by
  have q:(H b).isSome=true:=(List.mem_filter.mp d).2;rw[n] at q;simp at q
def yjy{h:Heap}{H:Hp}{b:Addr}{o:Obj}(e:(hidT h H).get? b=some o):h.get? b=some o/\H b=none:=by
 have d:h.get? b=some o:=PySem.W.of_hideAll (trk h H) e;refine⟨d,?_⟩
 cases q:H b with
 |none=>rfl
 |some x=>
  have f:b∈trk h H:=List.mem_filter.mpr ⟨W8.mpr (Zm d),by simp[q]⟩;have z:(hidT h H).get? b=none:=PySem.W.hideAll_none (trk h H) f;rw[z] at e;cases e
end L2
namespace L2
open PySem PySem.Spec PyProof.Rows
structure Mod(K:vE)(mg:Str->Option Value)(base:Heap):Prop where
 kin:K.In base
 glob:base.Ns mainGlobals mg
 blt:∃mb,base.Ns builtinsNs mb/\∀x:Str,x ≠ "__name__" -> mb x=bootBuiltins x
 nolimit:base.NoLimit
structure Cx where
 prog:Program
 w:World
 K:vE
 mg:Str->Option Value
 base:Heap
 A:Around
 N:List Str
 s₀:Shared
 H₀:Hp
 env:Env
 outer:List Env
 stack:List Env
 ex:List Addr
 fn:Str->Bool
 calm:Bool
 pn:List (Addr×Obj)
 xe:Value->Shared->Prop
def frs(l:List Env):List Addr:=l.filterMap (·.frame)
abbrev Cx.fs(X:Cx):List Addr:=frs X.outer
def Vis(d:Scope)(x:Str):Prop:=d.names.lookup x=some .local\/d.names.lookup x=some .cell\/d.names.lookup x=some .free
def Loc(d:Scope)(x:Str):Prop:=d.names.lookup x=some .local\/d.names.lookup x=some .cell
def Look(env:Env)(h:Heap)(m:Str->Option Value)(x:Str)(u:Value):Prop:=
 (env.kindOf x=some .local/\m x=some u)\/((env.kindOf x=some .cell\/env.kindOf x=some .free)/\∃c,env.cells.lookup x=some c/\h.IsCell c (some u))
structure Cx.Ok(X:Cx):Prop where
 mod:Mod X.K X.mg X.base
 kind:X.env.scope.kind=.function
 glob:X.env.globals=mainGlobals
 blt:X.env.builtins=builtinsNs
 above:X.s₀.heap.objs.size<=X.env.locals
 inj:∀x y c,X.env.cells.lookup x=some c->X.env.cells.lookup y=some c->x=y
 has:∀x,(X.env.kindOf x=some .cell\/X.env.kindOf x=some .free)->∃c,X.env.cells.lookup x=some c
 cab:∀x c,X.fn x=true->X.env.cells.lookup x=some c->X.s₀.heap.objs.size<=c
 hd:X.calm=true->X.A.handled=none
 frames:X.A.frames=some X.stack
 stk:X.stack=X.outer\/(X.stack=X.env::X.outer/\X.env.frame=some X.env.locals)
 exf:∀b∈X.ex,b≠X.env.locals/\∀x c,X.env.cells.lookup x=some c->c≠b
 bs:∀b o,X.base.get? b=some o->X.s₀.heap.get? b=some o/\X.H₀ b=none
 bsz:X.base.objs.size<=X.s₀.heap.objs.size
 noex:∀b o,X.base.get? b=some o->b∉X.ex
 exfs:∀b∈X.ex,b∉X.fs
 funs:X.s₀.heap.FunFrames X.base X.outer
 frf:∀b∈X.fs,X.H₀ b=none
structure Inv(X:Cx)(pins:List (Addr×Obj))(σ:List (Option V))(H:Hp)(s:Shared):Prop where
 ok:X.Ok
 os:s.os=X.s₀.os
 bare:AllBare s.gens
 base:Un X.fs X.ex X.H₀ H X.s₀.heap s.heap
 loc:∃m,s.heap.Ns X.env.locals m/\∀(i:Nat) (x:Str) (v:V),X.N[i]? = some x->σ[i]? = some (some v)->Vis X.env.scope x->∃u,RelV v u/\Look X.env s.heap m x u
 cell:∀x c,X.env.cells.lookup x=some c->∃v,s.heap.IsCell c v
 free:H X.env.locals=none
 freeC:∀x c,X.env.cells.lookup x=some c->H c=none
 pin:∀p∈X.pn++pins,s.heap.get? p.1=some p.2/\H p.1=none/\p.1≠X.env.locals/\p.1∉X.fs/\∀v,p.2.data ≠ .cell v
 hok:HOk X.prog X.w H s.heap
 len:σ.length=X.N.length
section
variable{X:Cx}{pins:List (Addr×Obj)}{σ:List (Option V)}{H H':Hp}{s:Shared}{h':Heap}
def Cx.Ok.nofr(ok:X.Ok){b:Addr}{o:Obj}(e:X.base.get? b=some o):b∉X.fs:=λd=>by
 have:=(ok.funs.mem d).1
 rw[e] at this;cases this
theorem Inv.bs(I:Inv X pins σ H s):∀b o,X.base.get? b=some o->s.heap.get? b=some o/\H b=none:=λb o e=>
 ⟨I.base.keep b o (I.ok.bs b o e).1 (I.ok.bs b o e).2 (I.ok.nofr e) (I.ok.noex b o e),I.base.free b o (I.ok.bs b o e).1 (I.ok.bs b o e).2 (I.ok.noex b o e)⟩
def Inv.bk(I:Inv X pins σ H s):∀b o,X.base.get? b=some o->s.heap.get? b=some o:=λb o e=>(I.bs b o e).1
theorem Inv.mod(I:Inv X pins σ H s):Mod X.K X.mg X.base:=I.ok.mod
def Inv.kIn(I:Inv X pins σ H s):X.K.In s.heap:=I.ok.mod.kin.keeps I.bk
theorem Inv.lt(I:Inv X pins σ H s):X.env.locals<s.heap.objs.size:=let ⟨_,d,_⟩:=I.loc;d.lt
def Inv.sz(I:Inv X pins σ H s):X.s₀.heap.objs.size<=s.heap.objs.size:=Wd I.ok.above (Uq I.lt)
def Inv.nofs(I:Inv X pins σ H s){a:Addr}(h:s.heap.objs.size<=a):a∉X.fs:=λd=>by
 obtain⟨_,o,e,_⟩:=I.ok.funs.mem d
 exact absurd (Zf (Zm e) (Wd I.sz h)) (Wm _)
def Inv.cne(I:Inv X pins σ H s):∀x c,X.env.cells.lookup x=some c->c≠X.env.locals:=λx c e z=>by
 obtain⟨v,o,g,h⟩:=I.cell x c e
 obtain⟨m,⟨i,j,l,d,f,_⟩,_⟩:=I.loc
 rw[z,d] at g;cases g;rw[f] at h;cases h
theorem Inv.funs(I:Inv X pins σ H s):s.heap.FunFrames X.base X.outer:=by
 have all:∀(l:List Env),(∀b∈frs l,b∈X.fs)->X.s₀.heap.FunFrames X.base l->s.heap.FunFrames X.base l:=by
  intro l;induction l with
  |nil=>intro _ _;trivial
  |cons i r j=>
   intro h m;obtain⟨n,⟨L,o,d,p,q,t⟩,u⟩:=m
   have f:L∈X.fs:=h L (by unfold frs;rw[K0,d];exact Wi);obtain⟨v,e⟩:=I.base.slot L o q (I.ok.frf L f) f λz=>I.ok.exfs L z f
   exact⟨n,⟨L,_,d,p,e,t⟩,j (λb g=>h b (by unfold frs;rw[K0,d];exact Yv _ g)) u⟩
 exact all X.outer (λ_ g=>g) I.ok.funs
theorem Inv.stack(I:Inv X pins σ H s):s.heap.FunFrames X.base X.stack:=by
 rcases I.ok.stk with e|⟨e,d⟩
 ·rw[e];exact I.funs
 ·rw[e];obtain⟨m,f,_⟩:=I.loc
  refine .cons (by rw[I.ok.kind];decide) d f ?_ I.funs;exact Jw (Wd I.ok.bsz I.ok.above)
def Inv.stkSub(I:Inv X pins σ H s):∀b∈frs X.stack,b∈X.env.locals::X.fs:=λb d=>by
 rcases I.ok.stk with e|⟨e,f⟩
 ·rw[e] at d;exact Yv _ d
 ·rw[e] at d;unfold frs at d;rw[K0,f] at d;exact d
def Inv.stkFree(I:Inv X pins σ H s):∀b∈frs X.stack,H b=none:=λb hb=>by
 rcases Zg.mp (I.stkSub b hb) with e|hb
 ·rw[e];exact I.free
 ·obtain⟨_,o,d,_⟩:=I.ok.funs.mem hb
  exact I.base.free b o d (I.ok.frf b hb) λz=>I.ok.exfs b z hb
def Inv.step{g':Array GenState}{Y:Nat}{d':Drawn}{ch:List Addr}(I:Inv X pins σ H s)
 (g:∀b∈ch,(b∈X.ex\/X.s₀.heap.objs.size<=b)/\b≠X.env.locals/\(∀x c,X.env.cells.lookup x=some c->c≠b)/\∀p∈X.pn++pins,p.1≠b)
 (h:∀b o,b≠X.env.locals->b∉X.fs->b∉ch->s.heap.get? b=some o->H b=none->h'.get? b=some o)
 (slot:∀b o,b≠X.env.locals->b∈X.fs->b∉ch->s.heap.get? b=some o->H b=none->∃Q,h'.get? b=some {o with slots:=Q})(free:∀b o,b∉ch->s.heap.get? b=some o->H b=none->H' b=none)
 (D:∀b o,b∉ch->s.heap.get? b=some o->∃G,h'.get? b=some G)
 (J:∀b C,H b=some (.tup C)->H' b=some (.tup C))(K:∀b o u,H b=some (.frz o u)->H' b=some (.frz o u))(L:∀b P,H b=some (.tbl P)->∃M,H' b=some (.tbl (P++M)))
 (Z:∀m,s.heap.Ns X.env.locals m->h'.Ns X.env.locals m)(hok:HOk X.prog X.w H' h')(hg:AllBare g'):
  Inv X pins σ H' {s with heap:=h',gens:=g',drawn:=d',toks:=Y}:=by
 have N:∀b o,X.s₀.heap.get? b=some o->b≠X.env.locals:=λb o e=>Yc (Zf (Zm e) I.ok.above)
 have A:∀b o,X.s₀.heap.get? b=some o->b∉X.ex->b∉ch:=λb o e f E=>by
  rcases(g b E).1 with z|z
  ·exact f z
  ·exact absurd (Zf (Zm e) z) (Wm _)
 have j:∀x c,X.env.cells.lookup x=some c->∀v,s.heap.IsCell c v->h'.IsCell c v:=λx c e v ⟨o,F,R⟩=>by
  have t:c∉ch:=λz=>(g c z).2.2.1 x c e rfl
  by_cases T:c∈X.fs
  ·obtain⟨Q,q⟩:=slot c o (I.cne x c e) T t F (I.freeC x c e)
   exact⟨_,q,R⟩
  ·exact⟨o,h c o (I.cne x c e) T t F (I.freeC x c e),R⟩
 refine⟨I.ok,I.os,hg,⟨λb o e n E f=>?_,λb o e n E f=>?_,λb o e n f=>?_,λb o e f=>?_,λb C e=>J b C (I.base.tups b C e),λb o C e=>K b o C (I.base.frzs b o C e),λb P e=>?_⟩,?_,λx c e=>?_,?_,λx c e=>?_,λp U=>?_,hok,I.len⟩
 ·exact h b o (N b o e) E (A b o e f) (I.base.keep b o e n E f) (I.base.free b o e n f)
 ·obtain⟨Q,B⟩:=I.base.slot b o e n E f
  obtain⟨S,O⟩:=slot b _ (N b o e) E (A b o e f) B (I.base.free b o e n f)
  exact⟨S,O⟩
 ·obtain⟨G,B⟩:=I.base.there b o e f
  exact free b G (A b o e f) B (I.base.free b o e n f)
 ·obtain⟨G,B⟩:=I.base.there b o e f
  exact D b G (A b o e f) B
 ·obtain⟨m1,B⟩:=I.base.tbls b P e
  obtain⟨m2,O⟩:=L b _ B
  exact⟨m1++m2,by rw[O,Array.append_assoc]⟩
 ·obtain⟨m,hn,hl⟩:=I.loc
  refine⟨m,Z m hn,λi x v B O e3=>?_⟩
  obtain⟨u,r,l⟩:=hl i x v B O e3
  refine⟨u,r,?_⟩
  rcases l with l|⟨k,c,e,z⟩
  ·exact .inl l
  ·exact .inr ⟨k,c,e,j x c e _ z⟩
 ·obtain⟨v,z⟩:=I.cell x c e
  exact⟨v,j x c e v z⟩
 ·obtain⟨m,⟨o,_,_,F,_⟩,_⟩:=I.loc
  exact free _ o (λz=>(g _ z).2.1 rfl) F I.free
 ·obtain⟨v,o,F,R⟩:=I.cell x c e
  exact free c o (λz=>(g c z).2.2.1 x c e rfl) F (I.freeC x c e)
 ·obtain⟨e,n,V,W,d⟩:=I.pin p U
  have t:p.1∉ch:=λz=>(g p.1 z).2.2.2 p U rfl
  exact⟨h p.1 p.2 V W t e n,free p.1 p.2 t e n,V,W,d⟩
def Inv.un{t':Nat}(I:Inv X pins σ H s)(u:Un X.fs [] H H' s.heap h')(hok:HOk X.prog X.w H' h'):Inv X pins σ H' {s with heap:=h',toks:=t'}:=by
 obtain⟨m,⟨o,q,t,i,r⟩,_⟩:=id I.loc
 obtain⟨v,j⟩:=u.any i I.free vC
 exact I.step (g':=s.gens) (d':=s.drawn) (ch:=[]) (λ_ z=>nomatch z) (λb o _ f _ e n=>u.keep b o e n f vC) (λb o _ f _ e n=>u.slot b o e n f vC) (λb o _ e n=>u.free b o e n vC) (λb o _ e=>u.there b o e vC) u.tups u.frzs u.tbls (λA l=>by
  obtain⟨B,g,h,d,p⟩:=l
  rw[i] at d;cases d;exact⟨_,g,h,j,p⟩) hok I.bare
def Inv.call{g':Array GenState}{t':Nat}{d':Drawn}{ch:List Addr}(I:Inv X pins σ H s)(u:Un (frs X.stack) ch H H' s.heap h')(hok:HOk X.prog X.w H' h')(q:AllBare g')
 (f:∀b∈ch,(b∈X.ex\/X.s₀.heap.objs.size<=b)/\b≠X.env.locals/\(∀x c,X.env.cells.lookup x=some c->c≠b)/\∀p∈X.pn++pins,p.1≠b):
  Inv X pins σ H' {s with heap:=h',gens:=g',drawn:=d',toks:=t'}:=by
 obtain⟨m,⟨o,B,C,l,r⟩,_⟩:=id I.loc
 obtain⟨D,h⟩:=u.any l I.free λz=>(f _ z).2.1 rfl
 exact I.step (ch:=ch) f (λb o h t d e n=>u.keep b o e n (λz=>(Zg.mp (I.stkSub b z)).elim h t) d) (λb o _ _ d e n=>u.any e n d) (λb o d e n=>u.free b o e n d) (λb o d e=>u.there b o e d) u.tups u.frzs u.tbls (λE v=>by
  obtain⟨F,i,j,g,A⟩:=v
  rw[l] at g;cases g;exact⟨_,i,j,h,A⟩) hok q
def Inv.turned{t':Nat}{d:Addr}(I:Inv X pins σ H s)(k:∀b o,b≠d->s.heap.get? b=some o->h'.get? b=some o)(i:H d=none)(h:d≠X.env.locals)
 (j:d∈X.ex\/X.s₀.heap.objs.size<=d)(l:∀x c,X.env.cells.lookup x=some c->c≠d)(t:∀p∈X.pn++pins,p.1≠d):Inv X pins σ H {s with heap:=h',toks:=t'}:=by
 have g:∀b u,H b=some u->b≠d:=λb u e z=>by rw[z,i] at e;cases e
 refine I.step (g':=s.gens) (d':=s.drawn) (ch:=[d]) (λb w=>?_) (λb o _ _ f e _=>k b o (λz=>f (by simp[z])) e) (λb o _ _ f e _=>⟨o.slots,k b o (λz=>f (by simp[z])) e⟩) (λ_ _ _ _ n=>n)
  (λb o f e=>⟨o,k b o (λz=>f (by simp[z])) e⟩) (λ_ _ e=>e) (λ_ _ _ e=>e) (λb E e=>⟨#[],by rw[e];simp⟩) (λm A=>?_) (λb u e=>?_) I.bare
 ·have e:b=d:=by simpa using w
  subst e;exact⟨j,h,l,t⟩
 ·obtain⟨o,B,C,D,r⟩:=A
  exact⟨o,B,C,k _ o (Wn h) D,r⟩
 ·refine(I.hok b u e).stay (λc v f q=>k c v ?_ q) (λ_ q=>q) λ_ _ q=>q
  rcases f with z|z
  ·rw[z];exact g b u e
  ·exact g c _ z
def Inv.tok(I:Inv X pins σ H s)(t:Nat):Inv X pins σ H {s with toks:=t}:=I.un (h':=s.heap) (t':=t) Un.refl I.hok
theorem Inv.kept{t':Nat}(I:Inv X pins σ H s)(k:∀b u,s.heap.get? b=some u->h'.get? b=some u):Inv X pins σ H {s with heap:=h',toks:=t'}:=I.un (Un.kept k) (I.hok.kept k)
theorem Inv.laid{a:Addr}{o:HO}{t':Nat}(I:Inv X pins σ H s)(k:∀b u,s.heap.get? b=some u->h'.get? b=some u)(d:s.heap.objs.size<=a)(e:ObjOk X.prog X.w (upd H a o) h' a o):
  Inv X pins σ (upd H a o) {s with heap:=h',toks:=t'}:=I.un (Un.laid k d (I.hok.fresh d)) (I.hok.laid k d e)
theorem Inv.write{x e:Addr}{o:HO}{i:Nat}(I:Inv X pins σ H s)(g:Mut (H x))(h:e=x\/H e=some (.own x))(k:∀b u,b≠e->s.heap.get? b=some u->h'.get? b=some u)(d:∃u,h'.get? e=some u)
 (f:ObjOk X.prog X.w (upd H x o) h' x o):Inv X pins σ (upd H x o) {s with heap:=h',toks:=i}:=I.un (Un.write g h k d) (I.hok.write g h k d f)
def Inv.pins_of{d:List (Addr×Obj)}(I:Inv X pins σ H s)(h:∀p∈d,s.heap.get? p.1=some p.2/\H p.1=none/\p.1≠X.env.locals/\p.1∉X.fs/\∀v,p.2.data ≠ .cell v):Inv X d σ H s:=
 ⟨I.ok,I.os,I.bare,I.base,I.loc,I.cell,I.free,I.freeC,λp e=>(Yh.mp e).elim (λz=>I.pin p (Qy _ z)) (h p),I.hok,I.len⟩
def zsd{N:List Str}(d:N.Nodup){i j:Nat}{x:Str}(a:N[i]? = some x)(b:N[j]? = some x):i=j:=by
 obtain⟨g,e⟩:=Zo.mp a
 obtain⟨h,f⟩:=Zo.mp b
 exact(Kt d).mp (e.trans f.symm)
def zng{M:Model}{A:Around}{E:Value->Shared->Prop}{i:Nat}{x:Str}{v:V}{u:Value}{Q:Unit->Shared->Prop}(I:Inv X pins σ H s)(hN:X.N.Nodup)(P:X.N[i]? = some x)(B:Loc X.env.scope x)(r:RelV v u)
 (h:∀s',Inv X pins (σ.set i (some v)) H s'->(∃a,Heap.SameBut a s.heap s'.heap/\(a=X.env.locals\/X.env.cells.lookup x=some a))->Q () s')(hf:X.fn x=true\/X.env.scope.names.lookup x=some .local:=by first|exact .inl rfl|exact .inr rfl|assumption):wpAny M A (storeName X.env x u) Q E s:=by
 obtain⟨m,hn,hl⟩:=id I.loc
 have R:(X.env.scope.kind == .class || (X.env.scope.kind == .module && X.env.locals != X.env.globals))=false:=by rw[I.ok.kind];rfl
 have F:i<σ.length:=by rw[I.len];exact(Zo.mp P).1
 have J:=I.cne;have g:∀{a:Addr}{h':Heap},(∃o,s.heap.get? a=some o/\H a=none)->Heap.SameBut a s.heap h'->HOk X.prog X.w H h':=λ{a h'} ha f b ob e=>by
  obtain⟨_,_,C⟩:=ha
  refine(I.hok b ob e).stay (λc Y t q=>(f.2 c ?_).trans q) (λ_ q=>q) λ_ _ q=>q
  rintro rfl
  rcases t with rfl|t
  ·rw[C] at e;cases e
  ·rw[C] at t;cases t
 rcases B with G|G
 ·refine wpAny_storeName_local G hn (λh' a0 f=>?_) R;obtain⟨oL,_,_,a1,_⟩:=id hn
  refine h _ ⟨I.ok,I.os,I.bare,⟨λb o e n K B=>?_,λb o e n K B=>?_,I.base.free,λb o e B=>?_,I.base.tups,I.base.frzs,I.base.tbls⟩,⟨_,a0,λj y v' l D e3=>?_⟩,λy c e=>?_,I.free,I.freeC,λp hp=>?_,g ⟨oL,a1,I.free⟩ f,by simpa using I.len⟩ ⟨_,f,.inl rfl⟩
  ·exact(f.2 b (Yc (Zf (Zm e) I.ok.above))).trans (I.base.keep b o e n K B)
  ·obtain⟨sl,l⟩:=I.base.slot b o e n K B
   exact⟨sl,(f.2 b (Yc (Zf (Zm e) I.ok.above))).trans l⟩
  ·obtain⟨o',l⟩:=I.base.there b o e B
   exact⟨o',(f.2 b (Yc (Zf (Zm e) I.ok.above))).trans l⟩
  ·by_cases L:j=i
   ·subst L;rw[P] at l;cases l;rw[Yu F] at D;cases D;exact⟨u,r,.inl ⟨G,by simp⟩⟩
   ·rw[Yi (Wn L)] at D;obtain⟨u',r',q⟩:=hl j y v' l D e3
    refine⟨u',r',?_⟩
    rcases q with⟨k,e⟩|⟨k,c,e,z⟩
    ·refine .inl ⟨k,?_⟩;have:y≠x:=λe=>L (zsd hN l (e ▸ P))
     simp[this,e]
    ·exact .inr ⟨k,c,e,z.sameBut f (J y c e)⟩
  ·obtain⟨Y,z⟩:=I.cell y c e
   exact⟨Y,z.sameBut f (J y c e)⟩
  ·obtain⟨e,n,Z,nf,d⟩:=I.pin p hp
   exact⟨(f.2 p.1 Z).trans e,n,Z,nf,d⟩
 ·have O:X.fn x=true:=by
   rcases hf with z|z
   ·exact z
   ·rw[z] at G;cases G
  obtain⟨c,t⟩:=I.ok.has x (.inl G)
  obtain⟨Y,z⟩:=I.cell x c t
  refine wpAny_storeName_cell I.ok.kind G t z (λh' S f=>?_);obtain⟨oc,T,U⟩:=id z
  refine h {s with heap:=h'} ⟨I.ok,I.os,I.bare,⟨λb o e n K B=>?_,λb o e n K B=>?_,I.base.free,λb o e B=>?_,I.base.tups,I.base.frzs,I.base.tbls⟩,⟨m,hn.sameBut f (Wn (J x c t)),λj y v' l D e3=>?_⟩,λy c' e=>?_,I.free,I.freeC,λp hp=>?_,g ⟨oc,T,I.freeC x c t⟩ f,by simpa using I.len⟩ ⟨c,f,.inr t⟩
  ·exact(f.2 b (Yc (Zf (Zm e) (I.ok.cab x c O t)))).trans (I.base.keep b o e n K B)
  ·obtain⟨sl,l⟩:=I.base.slot b o e n K B
   exact⟨sl,(f.2 b (Yc (Zf (Zm e) (I.ok.cab x c O t)))).trans l⟩
  ·obtain⟨o',l⟩:=I.base.there b o e B
   exact⟨o',(f.2 b (Yc (Zf (Zm e) (I.ok.cab x c O t)))).trans l⟩
  ·by_cases L:j=i
   ·subst L;rw[P] at l;cases l;rw[Yu F] at D;cases D;exact⟨u,r,.inr ⟨.inl G,c,t,S⟩⟩
   ·rw[Yi (Wn L)] at D;obtain⟨u',r',q⟩:=hl j y v' l D e3
    refine⟨u',r',?_⟩
    rcases q with q|⟨k,c',e,z'⟩
    ·exact .inl q
    ·refine .inr ⟨k,c',e,z'.sameBut f ?_⟩;rintro rfl
     exact L (zsd hN l (I.ok.inj _ _ _ e t ▸ P))
  ·by_cases W:c'=c
   ·subst W;exact⟨_,S⟩
   ·obtain⟨w2,z2⟩:=I.cell y c' e
    exact⟨w2,z2.sameBut f W⟩
  ·obtain⟨e,n,Z,nf,d⟩:=I.pin p hp
   refine⟨(f.2 p.1 ?_).trans e,n,Z,nf,d⟩
   intro q;rw[q,T] at e;have q':oc=p.2:=Z0 e;exact d Y (by rw[<-q'];exact U)
def zhm{M:Model}{A:Around}{E:Value->Shared->Prop}{i:Nat}{x:Str}{v:V}{u:Value}{Q:Unit->Shared->Prop}(I:Inv X pins σ H s)(e:X.N.Nodup)(f:X.N[i]? = some x)(g:Loc X.env.scope x)(r:RelV v u)
 (h:∀d,Inv X pins (σ.set i (some v)) H d->Q () d)(j:X.fn x=true\/X.env.scope.names.lookup x=some .local:=by first|exact .inl rfl|exact .inr rfl|assumption):wpAny M A (storeName X.env x u) Q E s:=
 zng I e f g r (λd l _=>h d l) j
def Inv.call'{d:Shared}{ch:List Addr}(I:Inv X pins σ H s)(g:d.os=s.os)(u:Un (frs X.stack) ch H H' s.heap d.heap)(hok:HOk X.prog X.w H' d.heap)(h:AllBare d.gens)
 (f:∀b∈ch,(b∈X.ex\/X.s₀.heap.objs.size<=b)/\b≠X.env.locals/\(∀x c,X.env.cells.lookup x=some c->c≠b)/\∀p∈X.pn++pins,p.1≠b):Inv X pins σ H' d:=by
 obtain⟨h',g',d',t',i⟩:=d
 have e:i=s.os:=g;subst e;exact I.call (g':=g') (t':=t') (d':=d') u hok h f
end
abbrev XK:=Value->Option Addr->Hp->Prop
abbrev St:=List (Option V)
abbrev VK:=V->Hp->Prop
abbrev TE:=St->Hp->VK->Prop
abbrev TT:=St->Hp->(Bool->Hp->Prop)->Prop
abbrev TA:=St->Hp->(List V->Hp->Prop)->Prop
structure Ends where
 nx:St->Hp->Prop
 rt:VK
 bk:St->Hp->Prop:=λ_ _=>False
 ct:St->Hp->Prop:=λ_ _=>False
abbrev TS:=Ends->St->Hp->Prop
def EP(X:Cx)(d:List (Addr×Obj))(f:St)(Q:VK)(u:Value)(g:Shared):Prop:=∃v e,Inv X d f e g/\RelV v u/\Q v e
def TP(X:Cx)(d:List (Addr×Obj))(f:St)(Q:Bool->Hp->Prop)(b:Bool)(g:Shared):Prop:=∃e,Inv X d f e g/\Q b e
def AP(X:Cx)(d:List (Addr×Obj))(g:St)(Q:List V->Hp->Prop)(h:List Value)(i:Shared):Prop:=∃e f,Inv X d g f i/\Vals e h/\Q e f
def SP(X:Cx)(e:List (Addr×Obj))(D:Ends)(f:Flow)(h:Shared):Prop:=
 match f with
 |.next=>∃d g,Inv X e d g h/\D.nx d g
 |.brk=>∃d g,Inv X e d g h/\D.bk d g
 |.cont=>∃d g,Inv X e d g h/\D.ct d g
 |.ret u=>∃v d g,Inv X e d g h/\RelV v u/\D.rt v g
def PE(X:Cx)(e:Expr)(t:TE):Prop:=
 ∀(d:List (Addr×Obj)) (s:Shared) (f:St) (H:Hp) (Q:VK),Inv X d f H s->t f H Q->wpAny (model X.prog X.w) X.A (eval e X.env) (EP X d f Q) X.xe s
def PT(X:Cx)(e:Expr)(t:TT):Prop:=
 ∀(d:List (Addr×Obj)) (s:Shared) (f:St) (H:Hp) (Q:Bool->Hp->Prop),Inv X d f H s->t f H Q->wpAny (model X.prog X.w) X.A (isTrue e X.env (eval e X.env)) (TP X d f Q) X.xe s
def PW(X:Cx)(e:Expr)(t:TT):Prop:=
 ∀(d:Sem Value) (pins:List (Addr×Obj)) (s:Shared) (f:St) (H:Hp) (Q:Bool->Hp->Prop),Inv X pins f H s->t f H Q->wpAny (model X.prog X.w) X.A (isTrue e X.env d) (TP X pins f Q) X.xe s
def PW.pt{X:Cx}{e:Expr}{t:TT}(h:PW X e t):PT X e t:=h _
def PA(X:Cx)(e:List Expr)(t:TA):Prop:=
 ∀(pos:Pos) (pins:List (Addr×Obj)) (s:Shared) (d:St) (H:Hp) (Q:List V->Hp->Prop),Inv X pins d H s->t d H Q->wpAny (model X.prog X.w) X.A (spliced (backTo pos (starEach e X.env))) (AP X pins d Q) X.xe s
def PS(X:Cx)(f:Stmt)(t:TS):Prop:=
 ∀(d:List (Addr×Obj)) (s:Shared) (e:St) (H:Hp) (D:Ends),Inv X d e H s->t D e H->wpAny (model X.prog X.w) X.A (exec f X.env) (SP X d D) X.xe s
def PSs(X:Cx)(f:List Stmt)(t:TS):Prop:=
 ∀(d:List (Addr×Obj)) (s:Shared) (e:St) (H:Hp) (D:Ends),Inv X d e H s->t D e H->wpAny (model X.prog X.w) X.A (execs f X.env) (SP X d D) X.xe s
def thn{d:Type}{t:Sem d}{Q e:d->Shared->Prop}{M:Model}{A:Around}{E:Value->Shared->Prop}{s:Shared}(h:wpAny M A t Q E s)(f:∀a s,Q a s->e a s):wpAny M A t e E s:=Ua h f λ_ _ x=>x
end L2
namespace L2
open PySem PySem.Spec PyProof.Rows
section
variable{X:Cx}
def tVar(i:Nat):TE:=λd H Q=>∃v,d[i]? = some (some v)/\Q v H
def tC(v:V):TE:=λ_ H Q=>Q v H
def zak{i:Nat}{x:Str}{pos:Pos}(q:X.N[i]? = some x)(t:Vis X.env.scope x)(n:(x == ("__debug__" : Str))=false:=by decide)(o:(x == ("__classdict__" : Str))=false:=by decide):PE X (.Name x pos) (tVar i):=by
 intro j s w H Q I h;obtain⟨v,e,h⟩:=h
 obtain⟨m,z,A⟩:=I.loc
 obtain⟨u,r,l⟩:=A i x v q e t
 have f:EP X j w Q u s:=⟨v,H,I,r,h⟩;rcases l with⟨g,B⟩|⟨g,c,p,d⟩
 ·exact wpAny_Name (wpAny_loadName_local I.ok.kind g z B f) n
 ·rcases g with g|g
  ·exact wpAny_Name (wpAny_loadName_cell I.ok.kind g p d f) n
  ·exact wpAny_Name (wpAny_loadName_free I.ok.kind g p d f o) n
def pe_int{i j pos}:PE X (.Constant (.int i) j pos) (tC (.int i)):=λ_ _ _ H _ I h=>wpAny_Constant_int ⟨.int i,H,I.tok _,⟨_,rfl⟩,h⟩
def pe_bl{b j pos}:PE X (.Constant (.bool b) j pos) (tC (.bl b)):=λ_ _ _ H _ I h=>Constant_bool ⟨.bl b,H,I,rfl,h⟩
def ygb{j pos}:PE X (.Constant .none j pos) (tC .non):=λ_ _ _ H _ I h=>Constant_none ⟨.non,H,I,rfl,h⟩
def Gl(X:Cx)(x:Str):Prop:=X.env.kindOf x=some .globalImplicit
def zye{E:Value->Shared->Prop}{d:List (Addr×Obj)}{s:Shared}{e:St}{H:Hp}{x:Str}{u:Value}{pos:Pos}{Q:Value->Shared->Prop}(I:Inv X d e H s)(f:Gl X x)(g:X.mg x=some u)(h:Q u s)
 (i:(x == ("__debug__" : Str))=false:=by decide):wpAny (model X.prog X.w) X.A (eval (.Name x pos) X.env) Q E s:=
 U2 I.ok.kind f (Calls.loadGlobal_global (by rw[I.ok.glob];exact I.mod.glob.keeps I.bk) g h) i
def zef{E:Value->Shared->Prop}{d:List (Addr×Obj)}{s:Shared}{e:St}{H:Hp}{x:Str}{u:Value}{pos:Pos}{Q:Value->Shared->Prop}(I:Inv X d e H s)(f:Gl X x)(g:X.mg x=none)(i:bootBuiltins x=some u)(h:Q u s)
 (j:x ≠ "__name__" := by decide)(l:(x == ("__debug__" : Str))=false:=by decide):wpAny (model X.prog X.w) X.A (eval (.Name x pos) X.env) Q E s:=by
 obtain⟨o,m,n⟩:=I.mod.blt
 exact U2 I.ok.kind f (Calls.loadGlobal_builtin (by rw[I.ok.glob];exact I.mod.glob.keeps I.bk) g (by rw[I.ok.blt];exact m.keeps I.bk) ((n x j).trans i) h) l
def yjq{x:Str}{v:V}{u:Value}{pos:Pos}(d:Gl X x)(e:X.mg x=none)(f:bootBuiltins x=some u)(r:RelV v u)(g:x ≠ "__name__" := by decide)(i:(x == ("__debug__" : Str))=false:=by decide):PE X (.Name x pos) (tC v):=
 λ_ _ _ H _ I h=>zef I d e f ⟨v,H,I,r,h⟩ g i
variable{a b:Expr}{ta tb:TE}{pos:Pos}
def tB(t:TE):TT:=λd H Q=>t d H λx e=>∃c,x=.bl c/\Q c e
def pt_val{e:Expr}{t:TE}(h:PE X e t)(i:∀f,isTrue e X.env f=(do let v <-f;standAt e.pos;holding [v] (truthy v)):=by intro _;rfl):PT X e (tB t):=by
 intro g s j H Q I l;refine isTrue_plain (thn (h g s j H _ I l) λv r ⟨x,m,n,o,p⟩=>?_) (i _);obtain⟨d,rfl,q⟩:=p
 cases o;exact Q7 ⟨m,n,q⟩
variable{tA tB':TT}{rest:List Expr}
def tAnd(t u:TT):TT:=λd H Q=>t d H λc e=>if c=true then u d e Q else Q false e
def tOr(t u:TT):TT:=λd H Q=>t d H λc e=>if c=true then Q true e else u d e Q
def tNot(t:TT):TT:=λd H Q=>t d H λc e=>Q (!c) e
def yjg(f:PT X a tA):PW X (.BoolOp .And [a] pos) tA:=by
 intro i d s g H Q I h;refine isTrue_and (thn (f d s g H Q I h) λc j e=>?_);cases c with
 |true=>exact isTrue_and_nil e
 |false=>exact e
def pw_or1(f:PT X a tA):PW X (.BoolOp .Or [a] pos) tA:=by
 intro i d s g H Q I h;refine isTrue_or (thn (f d s g H Q I h) λc j e=>?_);cases c with
 |false=>exact isTrue_or_nil e
 |true=>exact e
def yfx(j:PT X a tA)(l:PW X (.BoolOp .And (b::rest) pos) tB'):PW X (.BoolOp .And (a::b::rest) pos) (tAnd tA tB'):=by
 intro m d s e H Q I h;refine isTrue_and (thn (j d s e H _ I h) λc n ⟨f,g,i⟩=>?_);cases c with
 |true=>exact l m d n e f Q g i
 |false=>exact⟨f,g,i⟩
def pw_or(j:PT X a tA)(l:PW X (.BoolOp .Or (b::rest) pos) tB'):PW X (.BoolOp .Or (a::b::rest) pos) (tOr tA tB'):=by
 intro m d s e H Q I h;refine isTrue_or (thn (j d s e H _ I h) λc n ⟨f,g,i⟩=>?_);cases c with
 |true=>exact⟨f,g,i⟩
 |false=>exact l m d n e f Q g i
def pt_not(e:PT X a tA):PT X (.UnaryOp .Not a pos) (tNot tA):=by
 intro d s f H Q I h;exact isTrue_not (e d s f H (λc g=>Q (!c) g) I h)
def tAndV(ta tb:TE):TE:=λd H Q=>ta d H λx e=>∃c,x=.bl c/\if c=true then tb d e Q else Q (.bl false) e
def tOrV(ta tb:TE):TE:=λd H Q=>ta d H λx e=>∃c,x=.bl c/\if c=true then Q (.bl true) e else tb d e Q
def tNotV(ta:TE):TE:=λd H Q=>ta d H λx e=>∃c,x=.bl c/\Q (.bl (!c)) e
def pe_one{e}{t:TE}(h:PE X a t):PE X (.BoolOp e [a] pos) t:=λd s f H Q I g=>BoolOp_one (h d s f H Q I g)
def yge(j:PE X a ta)(l:PE X (.BoolOp .And (b::rest) pos) tb):PE X (.BoolOp .And (a::b::rest) pos) (tAndV ta tb):=by
 intro d s f H Q I h;refine BoolOp_and (thn (j d s f H _ I h) λv m ⟨x,g,i,n,e⟩=>?_);obtain⟨c,rfl,e⟩:=e
 cases n;refine Q7 ?_;cases c with
 |true=>exact l d m f g Q i e
 |false=>exact⟨.bl false,g,i,rfl,e⟩
def pe_or(j:PE X a ta)(l:PE X (.BoolOp .Or (b::rest) pos) tb):PE X (.BoolOp .Or (a::b::rest) pos) (tOrV ta tb):=by
 intro d s f H Q I h;refine BoolOp_or (thn (j d s f H _ I h) λv m ⟨x,g,i,n,e⟩=>?_);obtain⟨c,rfl,e⟩:=e
 cases n;refine Q7 ?_;cases c with
 |false=>exact l d m f g Q i e
 |true=>exact⟨.bl true,g,i,rfl,e⟩
def pe_not(f:PE X a ta):PE X (.UnaryOp .Not a pos) (tNotV ta):=by
 intro d s g H Q I h;refine UnaryOp_ (thn (f d s g H _ I h) λv m ⟨x,i,j,l,e⟩=>?_);obtain⟨c,rfl,e⟩:=e
 cases l;exact not_of (Q7 ⟨.bl (!c),i,j,rfl,e⟩)
def tIf(t:TT)(ta tb:TE):TE:=λd H Q=>t d H λc e=>if c=true then ta d e Q else tb d e Q
def zry{c:Expr}(m:PT X c tA)(n:PE X a ta)(o:PE X b tb):PE X (.IfExp c a b pos) (tIf tA ta tb):=by
 intro e s f H Q I h;refine wpAny_IfExp (thn (m e s f H _ I h) λd g ⟨i,j,l⟩=>?_);cases d with
 |true=>exact n e g f i Q j l
 |false=>exact o e g f i Q j l
end
end L2
namespace L2
open PySem PySem.Spec PyProof.Rows
def SqL(K:vE)(H:Hp)(a:Addr)(e:List V):Prop:=
 Rd H a (.lst e) \/
  ∃(o:Obj) (d:Array Value) (n:Nat),K.lookup a=some o/\o.cls=.type "list" /\ o.dict=none/\o.data=.seq d n/\d.size<=sizeLine/\Vals e d.toList
def SqT(K:vE)(H:Hp)(a:Addr)(e:List V):Prop:=
 Rd H a (.tup e) \/
  ∃(o:Obj) (d:Array Value) (n:Nat),K.lookup a=some o/\o.cls=.type "tuple" /\ o.data=.seq d n/\d.size<=sizeLine/\Vals e d.toList
def absV:Value->Option V
 |.none=>some .non
 |.bool b=>some (.bl b)
 |.int i _=>some (.int i)
 |.str x _=>some (.str x)
 |.bytes b _=>some (.byt b)
 |.float b _=>some (.flt b)
 |.ref a=>some (.ref a)
 |.type n=>some (.ty n)
 |_=>none
def RelV.abs{x:V}{u:Value}(r:RelV x u):absV u=some x:=by
 cases x with
 |non=>cases r;rfl
 |bl _=>cases r;rfl
 |int _=>obtain⟨t,rfl⟩:=r;rfl
 |str _=>obtain⟨t,rfl⟩:=r;rfl
 |byt _=>obtain⟨t,rfl⟩:=r;rfl
 |flt _=>obtain⟨t,rfl⟩:=r;rfl
 |ref _=>cases r;rfl
 |ty _=>cases r;rfl
def RelV.inj{x y:V}{u:Value}(r:RelV x u)(q:RelV y u):x=y:=Z0 (r.abs.symm.trans q.abs)
theorem Vals.inj:∀{e d:List V}{f:List Value},Vals e f->Vals d f->e=d:=λ{e d f} h=>by
 induction h generalizing d with
 |nil=>intro k;cases k;rfl
 |cons r t g=>
  intro k;cases k with
  |cons i j=>rw[r.inj i,g j]
section
variable{X:Cx}{pins:List (Addr×Obj)}{σ:St}{H:Hp}{s:Shared}{a:Addr}{xs ys:List V}
def SqL.of{K:vE}(h:H a=some (.lst xs)):SqL K H a xs:=.inl (.inl h)
def SqT.of{K:vE}(h:H a=some (.tup xs)):SqT K H a xs:=.inl (.inl h)
def Inv.list(I:Inv X pins σ H s)(h:SqL X.K H a xs):∃d:List Value,Vals xs d/\PlainL s.heap a d.toArray/\xs.length<=sizeLine:=by
 rcases h with h|⟨o,d,n,f,g,i,j,l,r⟩
 ·obtain⟨z,d,n,r,e⟩:=h.ok I.hok
  exact⟨d,r,⟨_,n,e,rfl,rfl,rfl⟩,z⟩
 ·refine⟨d.toList,r,⟨o,n,I.kIn a o f,g,i,by simpa using j⟩,?_⟩
  have e:=r.length;simp only[Qf] at e;omega
def Inv.tuple(I:Inv X pins σ H s)(h:SqT X.K H a xs):∃d:List Value,Vals xs d/\IsTup s.heap a d.toArray/\xs.length<=sizeLine:=by
 rcases h with h|⟨o,d,n,f,g,i,j,r⟩
 ·obtain⟨z,d,r,p⟩:=h.ok I.hok
  exact⟨d,r,p,z⟩
 ·refine⟨d.toList,r,⟨o,I.kIn a o f,g,n,by simpa using i⟩,?_⟩
  have e:=r.length;simp only[Qf] at e;omega
def Inv.list_inj(I:Inv X pins σ H s)(h:SqL X.K H a xs)(l:SqL X.K H a ys):xs=ys:=by
 obtain⟨g,r,⟨o,n,e,_,_,d⟩,_⟩:=I.list h
 obtain⟨f,m,⟨q,t,i,_,_,j⟩,_⟩:=I.list l
 rw[e] at i;cases i;rw[d] at j;injection j with p _
 have:g=f:=by simpa using congrArg Array.toList p
 subst this;exact r.inj m
def Inv.tuple_inj(I:Inv X pins σ H s)(h:SqT X.K H a xs)(l:SqT X.K H a ys):xs=ys:=by
 obtain⟨g,r,⟨o,e,_,n,d⟩,_⟩:=I.tuple h
 obtain⟨f,m,⟨q,i,_,t,j⟩,_⟩:=I.tuple l
 rw[e] at i;cases i;rw[d] at j;injection j with p _
 have:g=f:=by simpa using congrArg Array.toList p
 subst this;exact r.inj m
end
abbrev Cx.wish(X:Cx)(E:Value->Shared->Prop):Cx:={X with xe:=E}
abbrev Cx.nox(X:Cx):Cx:=X.wish λ_ _=>False
theorem Cx.Ok.wish{X:Cx}(ok:X.Ok)(E:Value->Shared->Prop):(X.wish E).Ok:=
 ⟨ok.mod,ok.kind,ok.glob,ok.blt,ok.above,ok.inj,ok.has,ok.cab,ok.hd,ok.frames,ok.stk,ok.exf,ok.bs,ok.bsz,ok.noex,ok.exfs,ok.funs,ok.frf⟩
def Cx.Ok.unwish{X:Cx}{E:Value->Shared->Prop}(ok:(X.wish E).Ok):X.Ok:=
 ⟨ok.mod,ok.kind,ok.glob,ok.blt,ok.above,ok.inj,ok.has,ok.cab,ok.hd,ok.frames,ok.stk,ok.exf,ok.bs,ok.bsz,ok.noex,ok.exfs,ok.funs,ok.frf⟩
section
variable{X:Cx}{pins:List (Addr×Obj)}{σ:St}{H:Hp}{s:Shared}{E:Value->Shared->Prop}
theorem Inv.wish(I:Inv X pins σ H s)(E:Value->Shared->Prop):Inv (X.wish E) pins σ H s:=⟨I.ok.wish E,I.os,I.bare,I.base,I.loc,I.cell,I.free,I.freeC,I.pin,I.hok,I.len⟩
theorem Inv.unwish(I:Inv (X.wish E) pins σ H s):Inv X pins σ H s:=⟨I.ok.unwish,I.os,I.bare,I.base,I.loc,I.cell,I.free,I.freeC,I.pin,I.hok,I.len⟩
theorem SP.unwish{D:Ends}{f:Flow}{g:Shared}(h:SP (X.wish E) pins D f g):SP X pins D f g:=by
 cases f with
 |next=>obtain⟨d,e,I,q⟩:=h;exact⟨d,e,I.unwish,q⟩
 |brk=>obtain⟨d,e,I,q⟩:=h;exact⟨d,e,I.unwish,q⟩
 |cont=>obtain⟨d,e,I,q⟩:=h;exact⟨d,e,I.unwish,q⟩
 |ret u=>obtain⟨v,d,e,I,r,q⟩:=h;exact⟨v,d,e,I.unwish,r,q⟩
theorem PSs.nox{d:List Stmt}{t:TS}(h:PSs X.nox d t):PSs X d t:=λpins s σ H D I e=>
 Ua (h pins s σ H D (I.wish _) e) (λ_ _ q=>q.unwish) λ_ _ z=>False.elim z
end
section
variable{X:Cx}{st:Stmt}{rest:List Stmt}{t u:TS}{e:Expr}{te:TE}{pos:Pos}
def tNext:TS:=λD d H=>D.nx d H
def tSeq(t u:TS):TS:=λD d H=>t {D with nx:=u D} d H
def yji:PSs X [] tNext:=λ_ _ d H _ I h=>J2 ⟨d,H,I,h⟩
def zab(g:PS X st t)(i:PSs X rest u):PSs X (st::rest) (tSeq t u):=by
 intro d s j H D I h;refine wpAny_execs_cons (thn (g d s j H {D with nx:=u D} I h) λf l q=>?_);cases f with
 |next=>
  obtain⟨e,m,n,q⟩:=q
  exact i d l e m D n q
 |ret v=>exact q
 |brk=>exact q
 |cont=>exact q
def zek(e:PS X st t):PSs X [st] t:=by
 intro d s g H D I h;refine wpAny_execs_cons (thn (e d s g H D I h) λf i q=>?_);cases f with
 |next=>exact J2 q
 |ret v=>exact q
 |brk=>exact q
 |cont=>exact q
def Inv.quiet{pins:List (Addr×Obj)}{σ:St}{H:Hp}{s:Shared}(I:Inv X pins σ H s):interactive X.env=false:=by simp[interactive,I.ok.kind]
def ybo(te:TE):TS:=λD d H=>te d H λ_ e=>D.nx d e
def zel(g:PE X e te)(i:swapsWith e none pos.line X.env=pure false:=by rfl):PS X (.Expr e pos) (ybo te):=by
 intro d s f H D I h;exact wpAny_Expr_any (thn (g d s f H _ I h) λv n ⟨x,j,l,o,m⟩=>⟨f,j,l,m⟩) I.quiet i
def tRet(te:TE):TS:=λD d H=>te d H D.rt
def zwz(g:PE X e te):PS X (.Return (some e) pos) (tRet te):=by
 intro d s f H D I h;exact wpAny_Return_some (thn (g d s f H _ I h) λv n ⟨x,i,j,l,m⟩=>⟨x,f,i,j,l,m⟩)
def tIfS(c:TT)(t u:TS):TS:=λD d H=>c d H λb e=>if b=true then t D d e else u D d e
def ps_if{c:Expr}{a b:List Stmt}{g:TT}(n:PT X c g)(o:PSs X a t)(p:PSs X b u):PS X (.If c a b pos) (tIfS g t u):=by
 intro e s f H D I h;refine wpAny_If (thn (n e s f H _ I h) λd i ⟨j,l,m⟩=>?_);cases d with
 |true=>exact o e i f j D l m
 |false=>exact p e i f j D l m
def tNever:TS:=λ_ _ _=>False
def zir{d:List Stmt}:PSs X d tNever:=λ_ _ _ _ _ _ h=>h.elim
end
abbrev TG:=V->St->Hp->(St->Hp->Prop)->Prop
abbrev TGs:=List V->St->Hp->(St->Hp->Prop)->Prop
def PG(X:Cx)(d:Expr)(t:TG):Prop:=
 ∀(e:List (Addr×Obj)) (s:Shared) (g:St) (H:Hp) (v:V) (u:Value) (Q:St->Hp->Prop),Inv X e g H s->RelV v u->t v g H Q ->
  wpAny (model X.prog X.w) X.A (assign d X.env u) (λ_ i=>∃f h,Inv X e f h i/\Q f h) X.xe s
def PGs(X:Cx)(j:List Expr)(t:TGs):Prop:=
 ∀(d:List (Addr×Obj)) (s:Shared) (f:St) (H:Hp) (g:List V) (h:List Value) (Q:St->Hp->Prop),Inv X d f H s->Vals g h->t g f H Q ->
  wpAny (model X.prog X.w) X.A (assignInOrder ((assignEach j X.env).map (·.2)) h) (λ_ l=>∃e i,Inv X d e i l/\Q e i) X.xe s
abbrev TSet:=V->V->V->Hp->(Hp->Prop)->Prop
def PSet(X:Cx)(t:TSet):Prop:=
 ∀(d:List (Addr×Obj)) (s:Shared) (e:St) (H:Hp) (o i v:V) (f g u:Value) (Q:Hp->Prop),Inv X d e H s->RelV o f->RelV i g->RelV v u->t o i v H Q ->
  wpAny (model X.prog X.w) X.A (setItem f g u) (λ_ j=>∃h,Inv X d e h j/\Q h) X.xe s
section
variable{X:Cx}{pos:Pos}
def zys(i:Nat):TG:=λv d H Q=>Q (d.set i (some v)) H
def zit{i:Nat}{x:Str}(e:X.N.Nodup)(f:X.N[i]? = some x)(g:Loc X.env.scope x)(j:X.fn x=true\/X.env.scope.names.lookup x=some .local:=by first|exact .inl rfl|exact .inr rfl|assumption):PG X (.Name x pos) (zys i):=by
 intro d s m H v u Q I r h;exact wpAny_assign_Name (zhm I e f g r (λn l=>⟨_,H,l,h⟩) j)
def gNil:TGs:=λd e H Q=>d=[]/\Q e H
def gCons(t:TG)(u:TGs):TGs:=λe f H Q=>∃v r,e=v::r/\t v f H λd g=>u r d g Q
def zqe:PGs X [] gNil:=by
 intro d s f H g i Q I r h;obtain⟨e,h⟩:=h
 subst e;cases r;exact assignInOrder_nil ⟨f,H,I,h⟩
def zho{e:Expr}{f:List Expr}{t:TG}{u:TGs}(i:PG X e t)(j:PGs X f u)
 (l:(assignEach (e::f) X.env).map (·.2)=assign e X.env::(assignEach f X.env).map (·.2):=by rfl):PGs X (e::f) (gCons t u):=by
 intro d s m H A B Q I r h;obtain⟨v,C,n,h⟩:=h
 subst n;cases r with
 |cons r o=>
  rw[l];refine Uw (thn (i d s m H _ _ _ I r h) λ_ p ⟨g,q,w,z⟩=>?_);exact j d p g q _ _ Q w o z
def gTup(K:vE)(n:Nat)(t:TGs):TG:=λv e H Q=>∃a d,v=.ref a/\SqT K H a d/\d.length=n/\t d e H Q
def zxi{f:List Expr}{k:Nat}{t:TGs}{n:Nat}(m:X.calm=true)(h:PGs X f t)
 (p:(assignEach f X.env).length=n:=by rfl)(g:(assignEach f X.env).findIdx? (·.1)=none:=by rfl):PG X (.Tuple f k pos) (gTup X.K n t):=by
 intro d s j H v u Q I r i;obtain⟨a,q,w,z,A,i⟩:=i
 subst w;cases r;obtain⟨B,l,C,G⟩:=I.tuple z
 refine assign_Tuple_tuple (I.ok.hd m) C (by simp[p,<-A,l.length]) g λD E=>?_;have F:Inv X d j H {s with heap:=D}:=I.kept (t':=s.toks) λb o e=>E b o (Yc (Zm e)) e
 exact h d _ j H q _ Q F (by simpa using l) i
def gSub(e f:TE)(t:TSet):TG:=λv d H Q=>e d H λo g=>f d g λi h=>t o i v h λH3=>Q d H3
def pg_sub{o i:Expr}{j l:TE}{t:TSet}(m:PE X o j)(n:PE X i l)(p:PSet X t)
 (q:∀v,assign (.Subscript o i pos) X.env v=(do
   let e <-holding [v] (eval o X.env)
   let f <-holding [v,e] (eval i X.env)
   standAt pos
   holding [v,e,f] (setItem e f v)
   release [v,e,f] []):=by intro _;rfl):PG X (.Subscript o i pos) (gSub j l t):=by
 intro d s g H v u Q I r h;rw[q];refine Zc (Ws (thn (m d s g H _ I h) λe w ⟨x,z,A,B,C⟩=>?_));refine Zc (Ws (thn (n d w g z _ A C) λf D ⟨y,E,F,G,J⟩=>?_));refine Zc (Ut (Zc (Ws (thn (p d D g E x y v e f u _ F B G r J) λ_ M ⟨H3,K,L⟩=>?_))));exact wpAny_release ⟨g,H3,K,L⟩
def tAsg(e:TE)(g:TG):TS:=λD d H=>e d H λx f=>g x d f D.nx
def yfy{f e:Expr}{i:TE}{g:TG}(l:PE X e i)(m:PG X f g)(n:swapsWithSole [f] e pos.line X.env=pure false:=by rfl)(o:swappedStores [f] e X.env=pure none:=by rfl)
 (p:(assignEach [f] X.env).map (·.2)=[assign f X.env]:=by rfl):PS X (.Assign [f] e pos) (tAsg i g):=by
 intro d s j H D I h;refine wpAny_Assign_stores (thn (l d s j H _ I h) λv r ⟨x,t,u,w,z⟩=>?_) n o;rw[p];exact thn (m d r j t x v _ u w z) λ_ A q=>q
def zks{i:Nat}{x:Str}{e:Expr}{g:TE}{d:Pos}(j:X.N.Nodup)(l:X.N[i]? = some x)(m:Loc X.env.scope x)(n:PE X e g)(o:swapsWith e (some (.Name x d)) pos.line X.env=pure false:=by rfl)(p:X.fn x=true\/X.env.scope.names.lookup x=some .local:=by first|exact .inl rfl|exact .inr rfl|assumption):
  PS X (.Assign [.Name x d] e pos) (tAsg g (zys i)):=by
 intro f s q H D I h;refine wpAny_Assign_Name (thn (n f s q H _ I h) λv A ⟨y,r,t,u,w⟩=>?_) o;exact zhm t j l m u (λB z=>⟨_,r,z,w⟩) p
def tPar(i j:Nat)(e:TA):TS:=λD d H=>e d H λf g=>∃v w,f=[v,w]/\D.nx ((d.set i (some v)).set j (some w)) g
def ps_par{i j:Nat}{x y:Str}{a b:Expr}{G:TA}{n r t:Pos}{u z f}(Q:X.calm=true)(J:X.N.Nodup)(R:X.N[i]? = some x)(S:X.N[j]? = some y)(B:i≠j)
 (K:X.env.scope.names.lookup x=some .local)(L:X.env.scope.names.lookup y=some .local)(T:PA X [a,b] G)
 (U:swappedStores [.Tuple [.Name x n,.Name y r] u t] (.Tuple [a,b] z f) X.env=pure (some [x,y]))
 (V:swapsWithSole [.Tuple [.Name x n,.Name y r] u t] (.Tuple [a,b] z f) pos.line X.env=pure false:=by rfl):
  PS X (.Assign [.Tuple [.Name x n,.Name y r] u t] (.Tuple [a,b] z f) pos) (tPar i j G):=by
 intro d s M H D I h;rw[exec_Assign_arm];refine Zc (Ut ?_);rw[V];refine Zc (Zp ?_);rw[if_neg vA];refine Zc (Tuple_ (thn (T _ d s M H _ I h) λW g ⟨vs,O,Y,Z,C⟩=>?_));obtain⟨v,w,e1,C⟩:=C
 subst e1;obtain⟨l,m,rfl,rv,E⟩:∃l m,W=[l,m]/\RelV v l/\RelV w m:=by
  cases Z with
  |cons p q=>
   cases q with
   |cons p' q'=>
    cases q';exact⟨_,_,rfl,p,p'⟩
 refine Jl ?_ (by show 2<=sizeLine;decide);have I2:Inv X d M O {g with heap:=g.heap.push {cls:=.type "tuple",data:=.seq [l,m].toArray} }:=Y.kept (t':=g.toks) λb o e=>Ze _ e
 rw[U];refine Zc (Zp ?_);show wpAny (model X.prog X.w) X.A (do rule "assign.swapped-stores"; let items <-unpackItems (.ref g.heap.objs.size) 2 none;assignInOrder [λv=>bindName X.env y v,λv=>bindName X.env x v] items.reverse;pure Flow.next) _ _ _;refine Zc (Jk (Zc (unpackItems_tuple (items:=#[l,m]) (I.ok.hd Q) (IsTup.new g.heap _) λh' F=>?_)));have I3:=I2.kept (h':=h') (t':=g.toks) λb o e=>F b o (Yc (Zm e)) e
 show wpAny _ _ (assignInOrder [λv=>bindName X.env y v,λv=>bindName X.env x v] [m,l] >>= λ_=>pure Flow.next) _ _ _;refine Zc (Uw (wpAny_bindName (zhm I3 J S (.inl L) E (λs2 I4=>?_) (.inr L))));refine Uw (wpAny_bindName (zhm I4 J R (.inl K) rv (λs3 P=>assignInOrder_nil (Zp ?_)) (.inr K)));rw[List.set_comm _ _ (Wn B)] at P;exact⟨_,O,P,C⟩
end
section
variable{X:Cx}{pos:Pos}
def tWhile(c:TT)(i:TS):TS:=λD d H=>∃W:Nat->St->Hp->Prop,(∃m,W m d H)/\∀m d H,W m d H ->
 c d H λb f=>if b=true then ∃N:St->Hp->Prop,(∀e g,N e g->∃h,h<m/\W h e g)/\i {D with nx:=N,ct:=N,bk:=D.nx} d f else D.nx d f
def zrx{c:Expr}{i:List Stmt}{u:TT}{z:TS}(B:PassesOwn (model X.prog X.w) X.A X.env X.xe)(K:PT X c u)(L:PSs X i z):PS X (.While c i [] pos) (tWhile u z):=by
 intro d s M H D I h;obtain⟨W,⟨O,P⟩,turn⟩:=h
 refine wpAny_While (codeAny_whileLoop (λn Q=>∃j C,Inv X d j C Q/\W n j C) ?_ O ⟨M,H,I,P⟩);rintro n R ⟨g,E,S,T⟩
 refine Q2 B (thn (K d R g E _ S (turn n g E T)) λb U ⟨F,G,l⟩=>?_);cases b with
 |true=>
  obtain⟨N,J,l⟩:=l
  rw[if_pos rfl];refine Q2 B (thn (L d U g F _ G l) λf V m=>?_);cases f with
  |next=>
   obtain⟨e,H3,o,p⟩:=m
   obtain⟨q,r,t⟩:=J e H3 p
   exact⟨q,r,e,H3,o,t⟩
  |cont=>
   obtain⟨e,H3,o,p⟩:=m
   obtain⟨q,r,t⟩:=J e H3 p
   exact⟨q,r,e,H3,o,t⟩
  |brk=>exact m
  |ret v=>exact m
 |false=>
  rw[if_neg Zr];exact J2 ⟨g,F,G,l⟩
end
structure It where
 go:Nat->Hp->Prop
 yld:Nat->Hp->V->Hp->Prop
 stop:Nat->Hp->Prop
def FpOk(X:Cx)(d:List (Addr×Obj))(H:Hp)(b:Addr):Prop:=
 H b=none/\b≠X.env.locals/\b∉X.fs/\(b∈X.ex\/X.s₀.heap.objs.size<=b)/\(∀x c,X.env.cells.lookup x=some c->c≠b)/\∀p∈X.pn++d,p.1≠b
def Inv.fpOk{X:Cx}{pins:List (Addr×Obj)}{σ:St}{H H':Hp}{s:Shared}{b:Addr}(I:Inv X pins σ H s)(d:s.heap.objs.size<=b)(f:H' b=none):FpOk X pins H' b:=by
 refine⟨f,Z3 (Zf I.lt d),I.nofs d,.inr (Wd I.sz d),λx c e z=>?_,λp g z=>?_⟩
 ·obtain⟨v,q⟩:=I.cell x c e
  exact absurd (Zf q.lt (by rw[z];exact d)) (Wm _)
 ·exact absurd (Zf (Zm (I.pin p g).1) (by rw[z];exact d)) (Wm _)
structure Turn(P:Program)(w:World)(K:vE)(tg:Expr)(J:It)(fp:List Addr)(it:Addr)(tn:Nat->Heap->Prop):Prop where
 mem:it∈fp
 obj:∀i h,tn i h->∀b∈fp,∃o,h.get? b=some o/\∀v,o.data ≠ .cell v
 keep:∀i h h',tn i h->(∀b∈fp,∀o,h.get? b=some o->h'.get? b=some o)->tn i h'
 item:∀(X:Cx),X.prog=P->X.w=w->X.K=K->X.calm=true->∀(i:Nat) (pins:List (Addr×Obj)) (s:Shared) (σ:St) (H:Hp) (E:Value->Shared->Prop),Inv X pins σ H s->(∀b∈fp,FpOk X pins H b)->tn i s.heap->J.go i H ->
  wpAny (model P w) X.A (pyNext (.ref it)) (λr s1=>∃u,r=some u /\
   wpAny (model P w) X.A (letOwnedTupleGo tg (.ref it) u) (λ_ s2=>∃x H',Inv X pins σ H' s2/\RelV x u/\J.yld i H x H'/\tn (i+1) s2.heap/\∀b∈fp,H' b=none) E s1) E s
 done:∀(X:Cx),X.prog=P->X.w=w->X.K=K->X.calm=true->∀(i:Nat) (pins:List (Addr×Obj)) (s:Shared) (σ:St) (H:Hp) (E:Value->Shared->Prop),Inv X pins σ H s->(∀b∈fp,FpOk X pins H b)->tn i s.heap->J.stop i H ->
  wpAny (model P w) X.A (pyNext (.ref it)) (λr s1=>r=none/\Inv X pins σ H s1) E s
 self:∀(A:Around) (i:Nat) (s:Shared) (Q:Value->Shared->Prop) (E:Value->Shared->Prop),tn i s.heap->Q (.ref it) s->wpAny (model P w) A (pyIter (.ref it)) Q E s
abbrev TI:=St->Hp->(It->Hp->Prop)->Prop
def PIE(X:Cx)(d:List (Addr×Obj))(l:St)(m:Expr)(R:It->Hp->Prop)(e:Value)(g:Shared):Prop:=
 ∃(h:Addr) (i:List Addr) (j:Nat->Heap->Prop) (J:It) (f:Hp),e=.ref h/\Inv X d l f g/\Turn X.prog X.w X.K m J i h j/\j 0 g.heap/\(∀b∈i,FpOk X d f b)/\R J f
def PI(X:Cx)(g e:Expr)(h:TI):Prop:=
 ∀(d:List (Addr×Obj)) (s:Shared) (f:St) (H:Hp) (R:It->Hp->Prop),Inv X d f H s->h f H R ->
  wpAny (model X.prog X.w) X.A (eval e X.env) (λv i=>wpAny (model X.prog X.w) X.A (pyIter v) (PIE X d f g R) X.xe i) X.xe s
def yds{M:Model}{A:Around}{E:Value->Shared->Prop}{s:Shared}{e:Expr}{f:Addr}{u:Value}{o:Obj}{n:String}{g:Array Value}{Q:Unit->Shared->Prop}(i:s.heap.get? f=some o)(j:o.cls=.type n)(l:o.data=.fields g)
   (m:["enumerate","zip","dict_itemiterator","dict_reverseitemiterator","odict_iterator","itertools.zip_longest","itertools.pairwise"].contains n=false)(d:Q () s):wpAny M A (letOwnedTupleGo e (.ref f) u) Q E s:=by
  unfold letOwnedTupleGo;cases e<;>first
    |exact Zp d
    | (cases u<;>first
        |exact Zp d
        | (refine Zc (wpAny_load i ?_)
           rw[j,l];show wpAny M A (if (["enumerate","zip","dict_itemiterator","dict_reverseitemiterator","odict_iterator","itertools.zip_longest","itertools.pairwise"].contains n && g[0]? == some (rawInt _))=true then _ else _) Q E s;rw[if_neg (by intro h;rw[m,Bool.false_and] at h;cases h)];exact Zp d))
def Itl(K:vE)(a:Addr):It:=
 ⟨λi H=>∃d x,SqL K H a d/\d[i]? = some x,λi H x e=>e=H/\∀d,SqL K H a d->d[i]? = some x,λi H=>∃d,SqL K H a d/\d.length<=i⟩
def Itt(K:vE)(a:Addr):It:=
 ⟨λi H=>∃d x,SqT K H a d/\d[i]? = some x,λi H x e=>e=H/\∀d,SqT K H a d->d[i]? = some x,λi H=>∃d,SqT K H a d/\d.length<=i⟩
def Itr(d:Int)(n:Nat):It:=⟨λi _=>i<n,λi H x e=>e=H/\x=.int (d+i),λi _=>n<=i⟩
def zvu{P:Program}{w:World}{K:vE}{S:Expr}(a j:Addr):Turn P w K S (Itl K a) [j] j (λi h=>h.IsListIter j a i) where
 mem:=by simp
 obj:=λi h f b l=>by
  have e:b=j:=by simpa using l
  subst e;obtain⟨o,e,c,d⟩:=f
  exact⟨o,e,λv z=>by rw[d] at z;cases z⟩
 keep:=λi h n f k=>f.at λo e=>k j vC o e
 item:=by
  intro X t A B Q i g s R H E I q f C;subst t A B;obtain⟨T,x,r,D⟩:=C
  obtain⟨F,G,p,U⟩:=I.list r
  obtain⟨u,V,Y⟩:=G.get D
  obtain⟨J,L,Z,M,N,O⟩:=q j vC
  refine wpAny_pyNext_list_item f p.isList (x:=u) (by simpa using V) λn m sb=>?_;have I1:Inv X g R H {s with heap:=n}:=I.turned (t':=s.toks) (λb o l e=>(sb.2 b l).trans e) J L M N O;obtain⟨o,e,c,d⟩:=id m
  exact⟨u,rfl,yds (s:={s with heap:=n}) e c d vA ⟨x,H,I1,Y,⟨rfl,λys hy=>by rw[I.list_inj hy r];exact D⟩,m,λb l=>(q b l).1⟩⟩
 done:=by
  intro X t A B Q i g s R H E I q f C;subst t A B;obtain⟨T,r,D⟩:=C
  obtain⟨F,G,p,U⟩:=I.list r
  obtain⟨J,L,Z,M,N,O⟩:=q j vC
  have hl:=G.length;exact wpAny_pyNext_list_end (I.ok.hd Q) f p.isList (by simp;omega) λn eb=>⟨rfl,I.turned (t':=s.toks) (λb o l e=>eb b o l e) J L M N O⟩
 self:=λ_ _ _ _ _ f h=>wpAny_pyIter_listiter f h
def ztr{P:Program}{w:World}{K:vE}{S:Expr}(a j:Addr):Turn P w K S (Itt K a) [j] j (λi h=>h.IsTupleIter j a i) where
 mem:=by simp
 obj:=λi h f b l=>by
  have e:b=j:=by simpa using l
  subst e;obtain⟨o,e,c,d⟩:=f
  exact⟨o,e,λv z=>by rw[d] at z;cases z⟩
 keep:=λi h q f k=>f.at λo e=>k j vC o e
 item:=by
  intro X A B C Q i g s R H E I r f D;subst A B C;obtain⟨T,x,t,F⟩:=D
  obtain⟨m,G,p,U⟩:=I.tuple t
  obtain⟨u,V,Y⟩:=G.get F
  obtain⟨J,L,Z,M,N,O⟩:=r j vC
  refine wpAny_pyNext_tuple_item f (show s.heap.IsTuple a m.toArray from p) (x:=u) (by simpa using V) λq n sb=>?_;have I1:Inv X g R H {s with heap:=q}:=I.turned (t':=s.toks) (λb o l e=>(sb.2 b l).trans e) J L M N O;obtain⟨o,e,c,d⟩:=id n
  exact⟨u,rfl,yds (s:={s with heap:=q}) e c d vA ⟨x,H,I1,Y,⟨rfl,λys hy=>by rw[I.tuple_inj hy t];exact F⟩,n,λb l=>(r b l).1⟩⟩
 done:=by
  intro X A B C Q i g s R H E I r f D;subst A B C;obtain⟨T,t,F⟩:=D
  obtain⟨m,G,p,U⟩:=I.tuple t
  obtain⟨J,L,Z,M,N,O⟩:=r j vC
  have hl:=G.length;exact wpAny_pyNext_tuple_end (I.ok.hd Q) f (show s.heap.IsTuple a m.toArray from p) (by simp;omega) λq eb=>⟨rfl,I.turned (t':=s.toks) (λb o l e=>eb b o l e) J L M N O⟩
 self:=λ_ _ _ _ _ f h=>wpAny_pyIter_tupleiter f h
def zts{P:Program}{w:World}{K:vE}{O:Expr}(f:Addr)(m:Int)(n:Nat):Turn P w K O (Itr m n) [f] f (λi h=>IsRangeIter h f (m+(i:Nat)*1) ((n:Int)-(i:Nat)) 1) where
 mem:=by simp
 obj:=λi h d b j=>by
  have e:b=f:=by simpa using j
  subst e;exact⟨_,d,λv z=>by
   have Q:Data.fields _=Data.cell v:=z;cases Q⟩
 keep:=λi h p d k=>k f vC _ d
 item:=by
  intro X r u A B i g s M H E I q d C;subst r u A;obtain⟨D,F,R,G,J,L⟩:=q f vC
  have W:=Walks.range (prog:=X.prog) (w:=X.w) (I.ok.hd B) f m 1 n;refine W.item i s _ _ C d λv p N S l T=>?_;obtain⟨t,rfl⟩:=S
  have U:Inv X g M H {s with heap:=p,toks:=N}:=I.turned (λb o j e=>T b o (by simpa using j) e) D F G J L;refine⟨_,rfl,yds (s:={s with heap:=p,toks:=N}) (n := "range_iterator") l rfl rfl vA ⟨.int (m+i),H,U,⟨t,?_⟩,⟨rfl,rfl⟩,l,λb j=>(q b j).1⟩⟩
  rw[J3]
 done:=by
  intro X r u A B i g s M H E I q d C;subst r u A;obtain⟨D,F,R,G,J,L⟩:=q f vC
  exact wpAny_pyNext_range_end (I.ok.hd B) d (by have:n<=i:=C;omega) λp V=>⟨rfl,I.turned (t':=s.toks) (λb o j e=>V b o j e) D F G J L⟩
 self:=λ_ _ _ _ _ d h=>wpAny_pyIter_rangeiter d h
end L2
namespace L2
open PySem PySem.Spec PyProof.Rows
section
variable{X:Cx}{tg:Expr}
def iList(K:vE)(e:TE):TI:=λf H R=>e f H λx d=>∃a,x=.ref a/\(∃g,SqL K d a g)/\R (Itl K a) d
def iTup(K:vE)(e:TE):TI:=λf H R=>e f H λx d=>∃a,x=.ref a/\(∃g,SqT K d a g)/\R (Itt K a) d
def zqd{l:Expr}{i:TE}(j:PE X l i):PI X tg l (iList X.K i):=by
 intro d s m H R I h;refine thn (j d s m H _ I h) λv f ⟨x,n,g,r,t⟩=>?_;obtain⟨a,e,⟨A,u⟩,q⟩:=t
 subst e;cases r;obtain⟨w,B,p,C⟩:=g.list u
 refine U3 p.isList ?_;refine⟨f.heap.objs.size,[f.heap.objs.size],_,_,n,rfl,g.kept (t':=f.toks) λb o e=>Ze _ e,zvu a _,⟨_,Zv _ rfl,rfl,rfl⟩,λb z=>?_,q⟩
 have e:b=f.heap.objs.size:=by simpa using z
 subst e;exact g.fpOk (Zk _) (g.hok.fresh (Zk _))
def zxg{l:Expr}{j:TE}(m:PE X l j):PI X tg l (iTup X.K j):=by
 intro d s n H R I h;refine thn (m d s n H _ I h) λv f ⟨x,r,g,t,u⟩=>?_;obtain⟨a,e,⟨A,w⟩,q⟩:=u
 subst e;cases t;obtain⟨i,B,p,C⟩:=g.tuple w
 refine wpAny_pyIter_tuple (show f.heap.IsTuple a i.toArray from p) ?_;refine⟨f.heap.objs.size,[f.heap.objs.size],_,_,r,rfl,g.kept (t':=f.toks) λb o e=>Ze _ e,ztr a _,⟨_,Zv _ rfl,rfl,rfl⟩,λb z=>?_,q⟩
 have e:b=f.heap.objs.size:=by simpa using z
 subst e;exact g.fpOk (Zk _) (g.hok.fresh (Zk _))
def zrv{g:List (Addr×Obj)}{h:St}{H:Hp}{s:Shared}{R:It->Hp->Prop}{E:Value->Shared->Prop}{d f:Int}{t u v:Tok}{i:Nat}(I:Inv X g h H s)(l : -(2^62)<=d)(m:d<2^62)(n : -(2^62)<=f)(p:f<2^62)
 (q:R (Itr d (f-d).toNat) H):wpAny (model X.prog X.w) X.A (pyIter (.ref s.heap.objs.size)) (PIE X g h tg R) E {s with heap:=s.heap.push {cls:=.type "range",data:=.fields #[.int d t,.int f u,.int 1 v]},toks:=i}:=by
 refine wpAny_pyIter_range (IsRange.new ..) (small_one l m n p) ?_;have j:Inv X g h H {s with heap:=s.heap.push {cls:=.type "range",data:=.fields #[.int d t,.int f u,.int 1 v]},toks:=i}:=I.kept λb o e=>Ze _ e
 refine⟨(s.heap.push {cls:=.type "range",data:=.fields #[.int d t,.int f u,.int 1 v]}).objs.size,[(s.heap.push {cls:=.type "range",data:=.fields #[.int d t,.int f u,.int 1 v]}).objs.size],_,_,H,rfl,
  j.kept (t':=i) λb o e=>Ze _ e,zts _ d (f-d).toNat,?_,λb r=>?_,q⟩
 ·have z:d+((0:Nat):Int)*1=d:=by simp
  have B:(((f-d).toNat:Nat):Int)-((0:Nat):Int)=Builtin.Range.rangeSize d f 1:=by rw[rangeSize_one];split<;>omega
  show IsRangeIter _ _ (d+((0:Nat):Int)*1) ((((f-d).toNat:Nat):Int)-((0:Nat):Int)) 1;rw[z,B];exact Zv _ rfl
 ·have e:b=(s.heap.push {cls:=.type "range",data:=.fields #[.int d t,.int f u,.int 1 v]}).objs.size:=by simpa using r
  subst e;exact j.fpOk (Zk _) (j.hok.fresh (Zk _))
def iRng1(d:TA):TI:=λe H R=>d e H λf g=>∃j:Int,f=[.int j] /\ -(2^62)<=j/\j<2^62/\R (Itr 0 j.toNat) g
def iRng2(d:TA):TI:=λe H R=>d e H λf g=>∃i j:Int,f=[.int i,.int j]/\(-(2^62)<=i/\i<2^62 /\ -(2^62)<=j/\j<2^62)/\R (Itr i (j-i).toNat) g
def zis{a:Expr}{g:TA}{p pos:Pos}(i:Gl X "range")(l:X.mg "range" = none)(m:PA X [a] g)(n:starEach [a] X.env=[(false,eval a X.env)]:=by rfl):PI X tg (.Call (.Name "range" p) [a] [] pos) (iRng1 g):=by
 intro d s o H R I h;refine Call_ (zef I i l boot_range (Ys (thn (m pos d s o H _ I h) λA B ⟨C,D,u,v,f⟩=>?_) n rfl));obtain⟨j,e,f,w,q⟩:=f
 subst e;cases v with
 |cons r z=>
  cases z;obtain⟨t,rfl⟩:=r
  exact call_range_1 (zrv u vB vB f w (by simpa using q))
def zny{a b:Expr}{m:TA}{p pos:Pos}(n:Gl X "range")(o:X.mg "range" = none)(u:PA X [a,b] m)(v:starEach [a,b] X.env=[(false,eval a X.env),(false,eval b X.env)]:=by rfl)(d:starEach [b] X.env=[(false,eval b X.env)]:=by rfl):
  PI X tg (.Call (.Name "range" p) [a,b] [] pos) (iRng2 m):=by
 intro f s w H R I h;refine Call_ (zef I n o boot_range (Ys (thn (u pos f s w H _ I h) λF G ⟨J,K,z,A,g⟩=>?_) (by rw[v,d]) (by rw[d];rfl)));obtain⟨i,j,e,⟨g,B,C,D⟩,q⟩:=g
 subst e;cases A with
 |cons r l=>
  cases l with
  |cons E l=>
   cases l;obtain⟨t,rfl⟩:=r
   obtain⟨L,rfl⟩:=E
   exact call_range_2 (zrv z g B C D q)
def tFor(l:TI)(g:TG)(n:TS):TS:=λD d H=>l d H λJ o=>∃W:Nat->Nat->St->Hp->Prop,(∃m,W 0 m d o)/\∀i m d H,W i m d H ->
 (J.stop i H/\D.nx d H)\/(J.go i H/\∃N:St->Hp->Prop,(∀e f,N e f->∃j,j<m/\W (i+1) j e f)/\∀x f,J.yld i H x f->g x d f λh p=>n {D with nx:=N,ct:=N,bk:=D.nx} h p)
def zkt(d:List Addr)(h:Heap):List (Addr×Obj):=d.filterMap λb=>(h.get? b).map λo=>(b,o)
def zds{d:List Addr}{h:Heap}{b:Addr}{o:Obj}(f:b∈d)(e:h.get? b=some o):(b,o)∈zkt d h:=Ub.mpr ⟨b,f,by rw[e];rfl⟩
def zxl{d:List Addr}{h:Heap}{p:Addr×Obj}(f:p∈zkt d h):p.1∈d/\h.get? p.1=some p.2:=by
 obtain⟨b,g,e⟩:=Ub.mp f
 cases q:h.get? b with
 |none=>rw[q] at e;cases e
 |some o=>
  rw[q] at e;have i:(b,o)=p:=Z0 e;subst i;exact⟨g,q⟩
def Inv.pinned{pins:List (Addr×Obj)}{σ:St}{H:Hp}{s:Shared}{f:List Addr}(I:Inv X pins σ H s)(i:∀b∈f,FpOk X pins H b)(j:∀b∈f,∃o,s.heap.get? b=some o/\∀v,o.data ≠ .cell v):Inv X (pins++zkt f s.heap) σ H s:=
 I.pins_of λp l=>(Yh.mp l).elim (λz=>I.pin p (Yj _ z)) λz=>by
  obtain⟨g,e⟩:=zxl z
  obtain⟨m,n,q,_⟩:=i p.1 g
  obtain⟨o,h,d⟩:=j p.1 g
  rw[e] at h;cases h;exact⟨e,m,n,q,d⟩
def Inv.unpinned{pins pl:List (Addr×Obj)}{σ:St}{H:Hp}{s:Shared}(I:Inv X (pins++pl) σ H s):Inv X pins σ H s:=I.pins_of λp d=>I.pin p (Yj _ (Qy _ d))
def zxa{p:Expr}{K:List Stmt}{wi:TI}{g:TG}{tb:TS}{pos:Pos}(O:PassesOwn (model X.prog X.w) X.A X.env X.xe)(hc:X.calm=true)(hi:PI X tg p wi)(hg:PG X tg g)(q:PSs X K tb)
 (hs:∀x,foldedSetIterable p X.env x=pure x:=by intro _;rfl):PS X (.For tg p K [] pos) (tFor wi g tb):=by
 intro j s σ H D I h;refine wpAny_For (thn (hi j s σ H _ I h) λv s1 h1=>thn h1 λa1 s2 h2=>?_) hs;obtain⟨it,P,tn,J,H2,e,I2,T,U,f2,W,⟨m0,w0⟩,turn⟩:=h2
 subst e;have t:∀{G:Hp},(∀b∈P,G b=none)->∀b∈P,FpOk X j G b:=λhn b q=>⟨hn b q,(f2 b q).2⟩
 refine codeAny_forLoop_any (λn s'=>∃i z G,Inv X j z G s'/\tn i s'.heap/\(∀b∈P,G b=none)/\W i n z G) ?_ m0 ⟨0,σ,H2,I2,U,λb q=>(f2 b q).1,w0⟩;rintro n s3 ⟨i,B,H3,I3,Q,R,w3⟩
 rcases turn i n B H3 w3 with⟨stop,qn⟩|⟨go,N,hN,step⟩
 ·refine Q2 O (thn (T.done X rfl rfl rfl hc i j s3 B H3 X.xe I3 (t R) Q stop) λr s4 ⟨V,I4⟩=>?_);subst V;exact J2 ⟨B,H3,I4,qn⟩
 ·refine Q2 O (thn (T.item X rfl rfl rfl hc i j s3 B H3 X.xe I3 (t R) Q go) λr s4 ⟨u,V,h4⟩=>?_);subst V;refine Q2 O (thn h4 λ_ s5 ⟨x,H5,I5,r5,y5,M,Y⟩=>?_);have Z:=I5.pinned (t Y) (T.obj _ _ M);refine Q2 O (thn (hg _ s5 B H5 x u _ Z r5 (step x H5 y5)) λ_ s6 ⟨a0,H6,I6,q6⟩=>?_);refine Q2 O (thn (q _ s6 a0 H6 _ I6 q6) λf s7 L=>?_);have C:∀{l:St}{E:Hp},Inv X (j++zkt P s5.heap) l E s7->N l E->∃m,m<n/\∃i z G,Inv X j z G s7/\tn i s7.heap/\(∀b∈P,G b=none)/\W i m z G:=λ{l E} F S=>by
   obtain⟨m',hm,w7⟩:=hN l E S
   refine⟨m',hm,i+1,l,E,F.unpinned,T.keep _ _ _ M λb q o e=>(F.pin (b,o) (Yj _ (Yj _ (zds q e)))).1,λb q=>?_,w7⟩
   obtain⟨o,e,d⟩:=T.obj _ _ M b q
   exact(F.pin (b,o) (Yj _ (Yj _ (zds q e)))).2.1
  cases f with
  |next=>obtain⟨l,E,F,S⟩:=L;exact C F S
  |cont=>obtain⟨l,E,F,S⟩:=L;exact C F S
  |brk=>obtain⟨l,E,F,L⟩:=L;exact⟨l,E,F.unpinned,L⟩
  |ret v=>obtain⟨x7,l,E,F,r7,L⟩:=L;exact⟨x7,l,E,F.unpinned,r7,L⟩
end
def zyt{o:Int}{n:Nat}{g:TG}{r:TS}{D:Ends}{d:St}{H:Hp}(f:Nat->St->Hp->Prop)(t:f 0 d H)
 (u:∀i d H,i<n->f i d H->g (.int (o+i)) d H λh q=>r {D with nx:=f (i+1),ct:=f (i+1),bk:=D.nx} h q)(v:∀d H,f n d H->D.nx d H):
  ∃W:Nat->Nat->St->Hp->Prop,(∃m,W 0 m d H)/\∀i m d H,W i m d H ->
   ((Itr o n).stop i H/\D.nx d H)\/((Itr o n).go i H/\∃N:St->Hp->Prop,(∀σ' j,N σ' j->∃s,s<m/\W (i+1) s σ' j)/\∀x j,(Itr o n).yld i H x j->g x d j λh q=>r {D with nx:=N,ct:=N,bk:=D.nx} h q):=by
 refine⟨λi m d H=>m=n-i/\i<=n/\f i d H,⟨n,by simp,Yz _,t⟩,?_⟩
 rintro i m d H ⟨rfl,z,p⟩
 by_cases l:i<n
 ·refine .inr ⟨l,f (i+1),λσ' j w=>⟨n-(i+1),by omega,rfl,l,w⟩,λx j y=>?_⟩;obtain⟨e,y⟩:=y
  subst e y;exact u i d _ l p
 ·have e:i=n:=by omega
  subst e;exact .inl ⟨Zk _,v d H p⟩
end L2
namespace L2
open PySem PySem.Spec PyProof.Rows
abbrev R2:=V->V->Hp->VK->Prop
def OpR(X:Cx)(f:Value->Value->Sem Value)(r:R2):Prop:=
 ∀(d:List (Addr×Obj)) (s:Shared) (e:St) (H:Hp) (x y:V) (v u:Value) (Q:VK),Inv X d e H s->RelV x v->RelV y u->r x y H Q ->
  wpAny (model X.prog X.w) X.A (f v u) (EP X d e Q) X.xe s
def UnR(X:Cx)(f:Value->Sem Value)(r:V->Hp->VK->Prop):Prop:=
 ∀(d:List (Addr×Obj)) (s:Shared) (e:St) (H:Hp) (x:V) (v:Value) (Q:VK),Inv X d e H s->RelV x v->r x H Q ->
  wpAny (model X.prog X.w) X.A (f v) (EP X d e Q) X.xe s
def zgi(X:Cx)(f:Value)(r:List V->Hp->VK->Prop):Prop:=
 ∀(d:List (Addr×Obj)) (s:Shared) (e:St) (H:Hp) (g:List V) (h:List Value) (Q:VK),Inv X d e H s->Vals g h->r g H Q ->
  wpAny (model X.prog X.w) X.A (call f h) (EP X d e Q) X.xe s
def tOp(r:R2)(e f:TE):TE:=λd H Q=>e d H λx g=>f d g λy h=>r x y h Q
def tUn(r:V->Hp->VK->Prop)(d:TE):TE:=λe H Q=>d e H λx f=>r x f Q
def rI(C:Int->Int->Prop)(g:Int->Int->V):R2:=λx y H Q=>∃i j,x=.int i/\y=.int j/\C i j/\Q (g i j) H
def rI0(g:Int->Int->V):R2:=λx y H Q=>∃i j,x=.int i/\y=.int j/\Q (g i j) H
def rU(g:Int->V):V->Hp->VK->Prop:=λx H Q=>∃i,x=.int i/\Q (g i) H
section
variable{X:Cx}{a b c:Expr}{ta tb tc:TE}{pos:Pos}
def binT(n:PE X a ta)(o:PE X b tb){d:List (Addr×Obj)}{s:Shared}{e:St}{H:Hp}{R:V->V->Hp->Prop}(I:Inv X d e H s)
 (h:ta e H λx m=>tb e m λy g=>R x y g){Q:Value->Shared->Prop}{f:Value->Value->Sem Value}
 (p:∀v u l x y g,Inv X d e g l->RelV x v->RelV y u->R x y g->wpAny (model X.prog X.w) X.A (f v u) Q X.xe l):
  wpAny (model X.prog X.w) X.A (eval a X.env) (λv i=>wpAny (model X.prog X.w) X.A (eval b X.env) (λu j=>wpAny (model X.prog X.w) X.A (f v u) Q X.xe j) X.xe i) X.xe s:=by
 refine thn (n d s e H _ I h) λv q ⟨x,m,r,t,z⟩=>?_;refine thn (o d q e m _ r z) λu l ⟨y,g,B,C,D⟩=>?_;exact p v u l x y g B t C D
def yjm{e:Operator}{r:R2}(f:OpR X (binaryOp e) r)(g:PE X a ta)(i:PE X b tb):PE X (.BinOp a e b pos) (tOp r ta tb):=by
 intro d s j H Q I h;exact wpAny_BinOp (binT g i I h λv u l x y m n o p q=>f d l j m x y v u Q n o p q)
def pe_un{e:UnaryOp}{r:V->Hp->VK->Prop}(g:UnR X (unaryOp e) r)(i:PE X a ta):PE X (.UnaryOp e a pos) (tUn r ta):=by
 intro d s f H Q I h;exact UnaryOp_ (thn (i d s f H _ I h) λv j ⟨x,l,m,n,o⟩=>g d j f l x v Q m n o)
def opI{f:Value->Value->Sem Value}{C:Int->Int->Prop}{g:Int->Int->Int}
 (d:∀(i j:Int) (t u:Tok) (s:Shared) (Q:Value->Shared->Prop) (E:Value->Shared->Prop),C i j->Q (.int (g i j) s.toks) {s with toks:=s.toks+1}->wpAny (model X.prog X.w) X.A (f (.int i t) (.int j u)) Q E s):
  OpR X f (rI C λi j=>.int (g i j)):=by
 intro e s p H x y v u Q I l m h;obtain⟨i,j,rfl,rfl,n,q⟩:=h
 obtain⟨t,rfl⟩:=l
 obtain⟨o,rfl⟩:=m
 exact d i j t o s _ _ n ⟨.int (g i j),H,I.tok _,⟨_,rfl⟩,q⟩
def opI0{f:Value->Value->Sem Value}{g:Int->Int->Int}
 (d:∀(i j:Int) (t u:Tok) (s:Shared) (Q:Value->Shared->Prop) (E:Value->Shared->Prop),Q (.int (g i j) s.toks) {s with toks:=s.toks+1}->wpAny (model X.prog X.w) X.A (f (.int i t) (.int j u)) Q E s):
  OpR X f (rI0 λi j=>.int (g i j)):=by
 intro e s o H x y v u Q I l m h;obtain⟨i,j,rfl,rfl,q⟩:=h
 obtain⟨t,rfl⟩:=l
 obtain⟨n,rfl⟩:=m
 exact d i j t n s _ _ ⟨.int (g i j),H,I.tok _,⟨_,rfl⟩,q⟩
def opB0{f:Value->Value->Sem Value}{g:Int->Int->Bool}
 (d:∀(i j:Int) (t u:Tok) (s:Shared) (Q:Value->Shared->Prop) (E:Value->Shared->Prop),Q (.bool (g i j)) s->wpAny (model X.prog X.w) X.A (f (.int i t) (.int j u)) Q E s):
  OpR X f (rI0 λi j=>.bl (g i j)):=by
 intro e s o H x y v u Q I l m h;obtain⟨i,j,rfl,rfl,q⟩:=h
 obtain⟨t,rfl⟩:=l
 obtain⟨n,rfl⟩:=m
 exact d i j t n s _ _ ⟨.bl (g i j),H,I,rfl,q⟩
def CPow(i j:Int):Prop:=0<=j/\j<=1000000/\i.natAbs<2^64
def op_add:OpR X (binaryOp .Add) (rI0 λi j=>.int (i+j)):=opI0 λ_ _ _ _ _ _ _ q=>add_int q
def op_sub:OpR X (binaryOp .Sub) (rI0 λi j=>.int (i-j)):=opI0 λ_ _ _ _ _ _ _ q=>sub_int q
def yjw:OpR X (binaryOp .Mod) (rI (λ_ j=>j≠0) λi j=>.int (i.fmod j)):=opI λ_ _ _ _ _ _ _ d q=>mod_int' d q
def op_pow:OpR X (binaryOp .Pow) (rI CPow λi j=>.int (i^j.toNat)):=opI λ_ _ _ _ _ _ _ d q=>pow_int_small d.1 d.2.1 d.2.2 q
def unI{f:Value->Sem Value}{g:Int->Int}
 (d:∀(i:Int) (t:Tok) (s:Shared) (Q:Value->Shared->Prop) (E:Value->Shared->Prop),Q (.int (g i) s.toks) {s with toks:=s.toks+1}->wpAny (model X.prog X.w) X.A (f (.int i t)) Q E s):
  UnR X f (rU λi=>.int (g i)):=by
 intro e s l H x v Q I j h;obtain⟨i,rfl,q⟩:=h
 obtain⟨t,rfl⟩:=j
 exact d i t s _ _ ⟨.int (g i),H,I.tok _,⟨_,rfl⟩,q⟩
def un_neg:UnR X (unaryOp .USub) (rU λi=>.int (-i)):=unI λ_ _ _ _ _ q=>neg_int q
end
def scal:V->V->Bool
 |.non,.non=>true|.non,.int _=>true|.int _,.non=>true|.non,.bl _=>true|.bl _,.non=>true|.non,.str _=>true|.str _,.non=>true
 |.int _,.int _=>true|.bl _,.bl _=>true|.str _,.str _=>true|.byt _,.byt _=>true
 |.int _,.str _=>true|.str _,.int _=>true|.bl _,.str _=>true|.str _,.bl _=>true
 |_,_=>false
def rEq:R2:=λx y H Q=>scal x y=true/\Q (.bl (decide (x=y))) H
def rNe:R2:=λx y H Q=>scal x y=true/\Q (.bl (!decide (x=y))) H
def zmj{i j:Int}:decide (V.int i=V.int j)=(i == j):=by
 rw[K4];simp
def zsz{i j:Bool}:decide (V.bl i=V.bl j)=(i == j):=by
 rw[K4];simp
def zzf{i j:Str}:decide (V.str i=V.str j)=(i == j):=by
 rw[K4];simp
def zzg{i j:Array UInt8}:decide (V.byt i=V.byt j)=(i.toList == j.toList):=by
 rw[K4];cases i;cases j;simp
section
variable{X:Cx}{a b c:Expr}{ta tb tc:TE}{pos:Pos}
def Bz{d:List (Addr×Obj)}{f:St}{H:Hp}{s:Shared}{Q:VK}{k g:Bool}(I:Inv X d f H s)(q:Q (.bl k) H)(e:k=g):EP X d f Q (.bool g) s:=by
 subst e;exact⟨.bl k,H,I,rfl,q⟩
def op_eq:OpR X (compareOp .Eq) rEq:=by
 intro l s m H x y v u Q I g d h;obtain⟨f,q⟩:=h
 cases x with
 |non=>
  cases g;cases y with
  |non=>cases d;exact PySem.EqNone.eq_none_none (Bz I q vC)
  |bl j=>cases d;exact PySem.EqNone.eq_none_bool (Bz I q vC)
  |int j=>obtain⟨e,rfl⟩:=d;exact PySem.EqNone.eq_none_int (Bz I q vC)
  |str j=>obtain⟨e,rfl⟩:=d;exact PySem.EqNone.eq_none_str (Bz I q vC)
  |_=>exact absurd (show false=true from f) Zr
 |bl i=>
  cases g;cases y with
  |non=>cases d;exact PySem.EqNone.eq_bool_none (Bz I q vC)
  |bl j=>cases d;exact eq_bool (Bz I q zsz)
  |str j=>obtain⟨e,rfl⟩:=d;exact PySem.EqMixed.eq_bool_str (Bz I q vC)
  |_=>exact absurd (show false=true from f) Zr
 |int i=>
  obtain⟨t,rfl⟩:=g
  cases y with
  |non=>cases d;exact PySem.EqNone.eq_int_none (Bz I q vC)
  |int j=>obtain⟨e,rfl⟩:=d;exact eq_int (Bz I q zmj)
  |str j=>obtain⟨e,rfl⟩:=d;exact PySem.EqMixed.eq_int_str (Bz I q vC)
  |_=>exact absurd (show false=true from f) Zr
 |str i=>
  obtain⟨t,rfl⟩:=g
  cases y with
  |non=>cases d;exact PySem.EqNone.eq_str_none (Bz I q vC)
  |bl j=>cases d;exact PySem.EqMixed.eq_str_bool (Bz I q vC)
  |int j=>obtain⟨e,rfl⟩:=d;exact PySem.EqMixed.eq_str_int (Bz I q vC)
  |str j=>obtain⟨e,rfl⟩:=d;exact eq_str (Bz I q zzf)
  |_=>exact absurd (show false=true from f) Zr
 |byt i=>
  obtain⟨t,rfl⟩:=g
  cases y with
  |byt j=>obtain⟨e,rfl⟩:=d;exact PySem.W.eq_bytes (Bz I q zzg)
  |_=>exact absurd (show false=true from f) Zr
 |_=>cases y<;>exact absurd (show false=true from f) Zr
def op_ne:OpR X (compareOp .NotEq) rNe:=by
 intro l s m H x y v u Q I g d h;obtain⟨f,q⟩:=h
 cases x with
 |non=>
  cases g;cases y with
  |non=>cases d;exact PySem.EqNone.ne_none_none (Bz I q vC)
  |bl j=>cases d;exact PySem.EqNone.ne_none_bool (Bz I q vC)
  |int j=>obtain⟨e,rfl⟩:=d;exact PySem.EqNone.ne_none_int (Bz I q vC)
  |str j=>obtain⟨e,rfl⟩:=d;exact PySem.EqNone.ne_none_str (Bz I q vC)
  |_=>exact absurd (show false=true from f) Zr
 |bl i=>
  cases g;cases y with
  |non=>cases d;exact PySem.EqNone.ne_bool_none (Bz I q vC)
  |bl j=>cases d;exact ne_bool (Bz I q (congrArg not zsz))
  |str j=>obtain⟨e,rfl⟩:=d;exact PySem.EqMixed.ne_bool_str (Bz I q vC)
  |_=>exact absurd (show false=true from f) Zr
 |int i=>
  obtain⟨t,rfl⟩:=g
  cases y with
  |non=>cases d;exact PySem.EqNone.ne_int_none (Bz I q vC)
  |int j=>obtain⟨e,rfl⟩:=d;exact ne_int (Bz I q (congrArg not zmj))
  |str j=>obtain⟨e,rfl⟩:=d;exact PySem.EqMixed.ne_int_str (Bz I q vC)
  |_=>exact absurd (show false=true from f) Zr
 |str i=>
  obtain⟨t,rfl⟩:=g
  cases y with
  |non=>cases d;exact PySem.EqNone.ne_str_none (Bz I q vC)
  |bl j=>cases d;exact PySem.EqMixed.ne_str_bool (Bz I q vC)
  |int j=>obtain⟨e,rfl⟩:=d;exact PySem.EqMixed.ne_str_int (Bz I q vC)
  |str j=>obtain⟨e,rfl⟩:=d;exact ne_str (Bz I q (congrArg not zzf))
  |_=>exact absurd (show false=true from f) Zr
 |byt i=>
  obtain⟨t,rfl⟩:=g
  cases y with
  |byt j=>obtain⟨e,rfl⟩:=d;exact PySem.W.ne_bytes (Bz I q (congrArg not zzg))
  |_=>exact absurd (show false=true from f) Zr
 |_=>cases y<;>exact absurd (show false=true from f) Zr
def op_lt:OpR X (compareOp .Lt) (rI0 λi j=>.bl (decide (i<j))):=opB0 λ_ _ _ _ _ _ _ q=>lt_int q
def op_le:OpR X (compareOp .LtE) (rI0 λi j=>.bl (decide (i<=j))):=opB0 λ_ _ _ _ _ _ _ q=>le_int q
def op_gt:OpR X (compareOp .Gt) (rI0 λi j=>.bl (decide (j<i))):=opB0 λ_ _ _ _ _ _ _ q=>gt_int q
def op_ge:OpR X (compareOp .GtE) (rI0 λi j=>.bl (decide (j<=i))):=opB0 λ_ _ _ _ _ _ _ q=>ge_int q
def op_isN:OpR X (compareOp .Is) (λx y H Q=>y=.non/\Q (.bl (decide (x=.non))) H):=by
 intro d s g H x y v u Q I e f h;obtain⟨rfl,q⟩:=h
 cases f;refine is_none_gen (Bz I q ?_);cases x<;>first
  |(cases e;rfl)
  |(obtain⟨t,rfl⟩:=e;rfl)
def yjv:OpR X (compareOp .IsNot) (λx y H Q=>y=.non/\Q (.bl (!decide (x=.non))) H):=by
 intro d s g H x y v u Q I e f h;obtain⟨rfl,q⟩:=h
 cases f;refine isnot_none_gen (Bz I q ?_);cases x<;>first
  |(cases e;rfl)
  |(obtain⟨t,rfl⟩:=e;rfl)
def yjp{e:CmpOp}{r:R2}(f:OpR X (compareOp e) r)(g:PE X a ta)(i:PE X b tb)(j:behindInMarks e b=false):PE X (.Compare a [e] [b] pos) (tOp r ta tb):=by
 intro d s l H Q I h;exact wpAny_Compare1 (binT g i I h λv u m x y n o p t q=>f d m l n x y v u Q o p t q) j
def tTest(t:TE):TT:=λd H Q=>t d H λx e=>∃k,x=.bl k/\Q k e
def yjh{f:CmpOp}{r:R2}(i:OpR X (compareOp f) r)(j:PE X a ta)(l:PE X b tb)(m:behindInMarks f b=false):PT X (.Compare a [f] [b] pos) (tTest (tOp r ta tb)):=by
 intro d s g H Q I h;refine wpAny_isTrue_Compare1 (thn (j d s g H _ I h) λv n ⟨x,o,p,q,t⟩=>thn (l d n g o _ p t) λu w ⟨y,A,B,C,D⟩=>
  thn (i d w g A x y v u _ B q C D) λc J ⟨z,H3,E,F,k,e,G⟩=>?_) m
 subst e;cases F;exact Q7 ⟨H3,E,G⟩
def zsh:(sizeLine:Nat)<2^63:=by rw[Ku];decide
def zia{x:V}{d:List Value}(r:Vals [x] d):∃u,d=[u]/\RelV x u:=by
 cases r with
 |cons e f=>cases f;exact⟨_,rfl,e⟩
def yat{x y:V}{d:List Value}(r:Vals [x,y] d):∃u e,d=[u,e]/\RelV x u/\RelV y e:=by
 cases r with
 |cons f g=>
  cases g with
  |cons h i=>cases i;exact⟨_,_,rfl,f,h⟩
def yep:zgi X (.builtin "abs") (λd H Q=>∃i,d=[.int i]/\Q (.int (if i<0 then -i else i)) H):=by
 intro e s f H d g Q I r h;obtain⟨i,rfl,q⟩:=h
 obtain⟨u,rfl,t,rfl⟩:=zia r
 exact call_abs_int λu j=>⟨.int (if i<0 then -i else i),H,I.tok _,⟨_,rfl⟩,q⟩
def zzu(g:X.calm=true):zgi X (.builtin "max") (λe H Q=>∃i j,e=[.int i,.int j]/\Q (.int (if j > i then j else i)) H):=by
 intro f s l H e m Q I r h;obtain⟨i,j,rfl,q⟩:=h
 obtain⟨u,n,rfl,⟨t,rfl⟩,⟨o,rfl⟩⟩:=yat r
 refine max_two_ints (I.ok.hd g) λp v k=>⟨_,H,I.kept k,?_,q⟩
 by_cases d:j > i
 ·rw[if_pos d,if_pos d];exact⟨_,rfl⟩
 ·rw[if_neg d,if_neg d];exact⟨_,rfl⟩
def zzs(g:X.calm=true):zgi X (.builtin "min") (λe H Q=>∃i j,e=[.int i,.int j]/\Q (.int (if j<i then j else i)) H):=by
 intro f s l H e m Q I r h;obtain⟨i,j,rfl,q⟩:=h
 obtain⟨u,n,rfl,⟨t,rfl⟩,⟨o,rfl⟩⟩:=yat r
 refine min_two_ints (I.ok.hd g) λp v k=>⟨_,H,I.kept k,?_,q⟩
 by_cases d:j<i
 ·rw[if_pos d,if_pos d];exact⟨_,rfl⟩
 ·rw[if_neg d,if_neg d];exact⟨_,rfl⟩
end
end L2
namespace L2
open PySem PySem.Spec PyProof.Rows
structure ObjM(h:Heap)(x dx C:Addr)(mA:Str->Option Value):Prop where
 obj:h.get? x=some (PySem.W.instObj C dx)
 ns:h.Ns1 dx mA
 ne:dx≠x
def zyb{h:Heap}{f:Addr}{g:Str->Option Value}(n:h.Ns1 f g):∃i,h.get? f=some i/\∀name,PySem.W.lookIn name i=some (g name):=by
 obtain⟨o,j,v,l,m,p,_,r⟩:=n
 refine⟨o,l,λname=>?_⟩
 have e:=r name;unfold nsFind findBy at e;rw[<-Array.find?_toList] at e;unfold PySem.W.lookIn;rw[m];dsimp only;split
 ·rename_i y q;rw[q] at e;exact congrArg some e
 ·rename_i q;rw[q] at e;have a:j.toList.any (·.refKey)=false:=by
   rw[List.any_eq_false];intro y s;obtain⟨z,t,d⟩:=p y (Ju.mp s)
   simp[DictEntry.refKey,d]
  have u:¬j.toList.any (·.refKey)=true:=by rw[a];exact Zr
  rw[if_neg u];exact congrArg some e
def ObjM.look{h:Heap}{x dx C:Addr}{mA:Str->Option Value}(I:ObjM h x dx C mA):∃d,PySem.W.InstAt h x (PySem.W.instObj C dx) C (some d)/\∀name,PySem.W.lookIn name d=some (mA name):=
 let ⟨d,e,f⟩:=zyb I.ns
 ⟨d,⟨I.obj,rfl,rfl,e⟩,f⟩
section
variable{prog:Program}{w:World}{A:Around}{E:Value->Shared->Prop}{s:Shared}{K:vE}{x dx C f:Addr}{mA:Str->Option Value}{name:Str}{v:Value}
def ylh{d:Bool}{Q:Value->Shared->Prop}(X:K.In s.heap)(I:ObjM s.heap x dx C mA)(f:PySem.W.plainGet K C name=true)(g:PySem.W.hasDictIn K C=true)
 (i:PySem.W.findIn K (.ref C) name=some none)(j:mA name=some v)(e:PySem.W.handedIn v=true)(h:Q v {s with toks:=s.toks+1}):
  wpAny (model prog w) A (getAttr (.ref x) name d) Q E s:=by
 obtain⟨m,J,l⟩:=I.look
 exact PySem.W.get_value X J (PySem.W.plainGet_of f).1 (PySem.W.findObj_own g i rfl (by rw[l,j])) e h
def yio{m:List Str}{Q:Unit->Shared->Prop}(X:K.In s.heap)(I:ObjM s.heap x dx C mA)
 (n:PySem.W.findIn K (.ref C) "__setattr__" = some (some (.builtin "object.__setattr__")))(o:PySem.W.plainOver K C=true)(p:PySem.W.takerIn K C name=some none)(q:PySem.W.hasDictIn K C=true)
 (t:PySem.Within mA m)(u:m.length<=sizeLine)
 (h:∀f,ObjM f x dx C (λy=>if y=name then some v else mA y)->Heap.SameBut dx s.heap f->Q () {s with heap:=f,toks:=s.toks+2}):
  wpAny (model prog w) A (setAttr (.ref x) name v) Q E s:=by
 obtain⟨G,J,H⟩:=I.look
 refine PySem.W.set_plain X J n (PySem.W.osa_open (s:={s with toks:=s.toks+1}) (r:=none) X J o p λb=>?_);obtain⟨L,z,g⟩:=PySem.W.any_some q
 have B:s.heap.get? x=some ⟨.ref C,some dx,.plain,#[]⟩:=I.obj;refine Zc (Zp (Zc (Zc (wpAny_loadPart B (Zc (PySem.W.Looks.here (s:={s with toks:=s.toks+1}) (PySem.W.looks_clsIn X z) ?_))))));rw[g];refine Zp (a:=some dx) (Zc (Zp (Zc ?_)));refine wpAny_nsSet1 (s:={s with toks:=s.toks+1}) I.ns λf d e=>?_;obtain⟨M,D,F,i,j,l⟩:=d.count (PySem.Within.cons name v t)
 refine Zc (wpAny_lookBehind i (by rw[j];exact pastItsLine_dict (Wd l (by rw[Zq];omega))) ?_);exact Zp (h _ ⟨(e.2 _ (Wn I.ne)).trans I.obj,d,I.ne⟩ e)
def yda{R:Result->Shared->Prop}{e:List Value}{i:List (Str×Value)}(X:K.In s.heap)(j:PySem.W.makesIn K C=true)
 (l:PySem.W.findIn K (.ref C) "__init__" = some (some (.ref f)))(m:PySem.W.typeIn K (.ref f)=some (.type "function"))
 (h:codeAny (model prog w) (A.under (.builtin "type.__call__" ⟨.ref C::e,i⟩)) (.call (.ref f) ⟨.ref (s.heap.objs.size+1)::e,i⟩) (PySem.W.InitBack (s.heap.objs.size+1) R)
   {s with heap:=(s.heap.push PySem.W.emptyDict).push (PySem.W.instObj C s.heap.objs.size)}):
  codeAny (model prog w) A (.call (.ref C) ⟨e,i⟩) R s:=by
 obtain⟨n,g,d,t,os⟩:=s
 exact PySem.W.make_core (PySem.W.makes_of X j) (PySem.W.looks_findIn X l) (λself=>PySem.W.bind_fn X self m) (.inl rfl) h
end
def putF(f:Str)(v:V):List (Str×V)->List (Str×V)
 |[]=>[(f,v)]
 |(g,x)::r=>if g=f then(g,v)::r else(g,x)::putF f v r
theorem zjc(f g:Str)(v:V):∀j:List (Str×V),(putF f v j).lookup g=if g=f then some v else j.lookup g
 |[]=>by
  show List.lookup g [(f,v)]=_;by_cases h:g=f
  ·have d:(g == f)=true:=beq_iff_eq.mpr h;simp only[List.lookup,d,if_pos h]
  ·have d:(g == f)=false:=beq_eq_false_iff_ne.mpr h;simp only[List.lookup,d,if_neg h]
 |(k,x)::r=>by
  have l:=zjc f g v r;rw[show putF f v ((k,x)::r)=(if k=f then(k,v)::r else(k,x)::putF f v r) from rfl];by_cases i:k=f
  ·rw[if_pos i];by_cases h:g=k
   ·have d:(g == k)=true:=beq_iff_eq.mpr h;simp only[List.lookup,d,if_pos (h.trans i)]
   ·have d:(g == k)=false:=beq_eq_false_iff_ne.mpr h;simp only[List.lookup,d,if_neg (λe:g=f=>h (e.trans i.symm))]
  ·rw[if_neg i];by_cases h:g=k
   ·have d:(g == k)=true:=beq_iff_eq.mpr h;simp only[List.lookup,d,if_neg (λe:g=f=>i (h.symm.trans e))]
   ·have d:(g == k)=false:=beq_eq_false_iff_ne.mpr h;simp only[List.lookup,d];exact l
theorem zje(f:Str)(v:V):∀d:List (Str×V),f∈(putF f v d).map (·.1)/\∀g,g∈d.map (·.1)->g∈(putF f v d).map (·.1)
 |[]=>⟨by simp[putF],λg h=>by simp at h⟩
 |(k,x)::r=>by
  obtain⟨j,l⟩:=zje f v r
  rw[show putF f v ((k,x)::r)=(if k=f then(k,v)::r else(k,x)::putF f v r) from rfl];by_cases i:k=f
  ·rw[if_pos i];subst i;exact⟨by simp,λg h=>by simpa using h⟩
  ·rw[if_neg i];refine⟨?_,λg h=>?_⟩
   ·rw[Zz];exact Yv _ j
   ·rw[Zz] at h |-;rcases Zg.mp h with e|e
    ·exact Zg.mpr (.inl e)
    ·exact Yv _ (l g e)
theorem zce(f:Str)(v:V):∀d:List (Str×V),(putF f v d).length<=d.length+1
 |[]=>by simp[putF]
 |(k,x)::r=>by
  have g:=zce f v r;rw[show putF f v ((k,x)::r)=(if k=f then(k,v)::r else(k,x)::putF f v r) from rfl];by_cases e:k=f
  ·rw[if_pos e,Zq,Zq];omega
  ·rw[if_neg e,Zq,Zq];omega
def RelO.some_of{v:V}{o:Option Value}(r:RelO (some v) o):∃u,o=some u/\RelV v u:=by
 cases o with
 |none=>exact(show False from r).elim
 |some u=>exact⟨u,rfl,r⟩
def zyq{v:V}{u:Value}(r:RelV v u):PySem.W.handedIn u=true:=by
 cases v with
 |non=>cases(show u=Value.none from r);rfl
 |bl b=>cases(show u=Value.bool b from r);rfl
 |int i=>obtain⟨t,e⟩:=(show ∃t,u=Value.int i t from r);cases e;rfl
 |str x=>obtain⟨t,e⟩:=(show ∃t,u=Value.str x t from r);cases e;rfl
 |byt b=>obtain⟨t,e⟩:=(show ∃t,u=Value.bytes b t from r);cases e;rfl
 |flt b=>obtain⟨t,e⟩:=(show ∃t,u=Value.float b t from r);cases e;rfl
 |ref a=>cases(show u=Value.ref a from r);rfl
 |ty n=>cases(show u=Value.type n from r);rfl
section
variable{P:Program}{w:World}{H H':Hp}{h h':Heap}{a C dx:Addr}{fs fs':List (Str×V)}
def zyj(i:HOk P w H h)(e:H a=some (.ins C dx fs)):∃g,ObjM h a dx C g/\(∀f,RelO (fs.lookup f) (g f))/\PySem.Within g (fs.map (·.1))/\fs.length<=1000/\H dx=some (.own a):=by
 obtain⟨d,z,j,l,g,n,r,q⟩:=(show ObjOk P w H h a (.ins C dx fs) from i a _ e)
 exact⟨g,⟨l,n,j⟩,r,q,z,d⟩
end
structure Cls(K:vE)(C:Addr):Prop where
 pg:PySem.W.plainGet K C Str.empty=true
 hd:PySem.W.hasDictIn K C=true
 po:PySem.W.plainOver K C=true
 sa:PySem.W.findIn K (.ref C) "__setattr__" = some (some (.builtin "object.__setattr__"))
def Cls.get{K:vE}{C:Addr}(c:Cls K C)(f:Str):PySem.W.plainGet K C f=true:=c.pg
def NoAttr(K:vE)(C:Addr)(f:Str):Prop:=PySem.W.findIn K (.ref C) f=some none
def NoAttr.taker{K:vE}{C:Addr}{f:Str}(n:NoAttr K C f):PySem.W.takerIn K C f=some none:=by
 unfold PySem.W.takerIn;rw[show PySem.W.findIn K (.ref C) f=some none from n];rfl
section
variable{X:Cx}{pins:List (Addr×Obj)}{σ:St}{H:Hp}{s:Shared}{a C dx:Addr}{fs:List (Str×V)}{f:Str}{v:V}{A:Around}{E:Value->Shared->Prop}
def zut{b:Bool}{Q:Value->Shared->Prop}(I:Inv X pins σ H s)(e:H a=some (.ins C dx fs))(c:Cls X.K C)(n:NoAttr X.K C f)(l:fs.lookup f=some v)
 (h:∀u d,Inv X pins σ H d->RelV v u->Q u d):wpAny (model X.prog X.w) A (getAttr (.ref a) f b) Q E s:=by
 obtain⟨i,O,r,_,_,_⟩:=zyj I.hok e
 obtain⟨u,j,g⟩:=RelO.some_of (v:=v) (o:=i f) (by rw[<-l];exact r f)
 exact ylh I.kIn O (c.get f) c.hd n j (zyq g) (h u _ (I.tok _) g)
def zuc{y:V}{u:Value}{Q:Unit->Shared->Prop}(I:Inv X pins σ H s)(e:H a=some (.ins C dx fs))(c:Cls X.K C)(n:NoAttr X.K C f)(L:fs.length<1000)(p:RelV y u)
 (h:∀i,Inv X pins σ (upd H a (.ins C dx (putF f y fs))) i->Q () i):wpAny (model X.prog X.w) A (setAttr (.ref a) f u) Q E s:=by
 obtain⟨j,O,r,l,_,m⟩:=zyj I.hok e
 have t:(fs.map (·.1)).length<=sizeLine:=by rw[Zd,Ku];omega
 refine yio I.kIn O c.sa c.po n.taker c.hd l t λv d B=>h _ ?_
 have D:∃o,v.get? dx=some o:=let ⟨o,_,_,F,_⟩:=d.ns;⟨o,F⟩;refine I.write (x:=a) (e:=dx) (by rw[e];exact True.intro) (.inr m) (λb q G z=>(B.2 b G).trans z) D ?_;refine⟨by rw[Bk O.ne];exact m,?_,O.ne,d.obj,_,d.ns,λg=>?_,λg J=>?_⟩
 ·have:=zce f y fs;omega
 ·show RelO ((putF f y fs).lookup g) (if g=f then some u else j g);rw[zjc];by_cases q:g=f
  ·rw[if_pos q,if_pos q];exact p
  ·rw[if_neg q,if_neg q];exact r g
 ·by_cases q:g=f
  ·rw[q];exact(zje f y fs).1
  ·refine(zje f y fs).2 g (l g λz=>J ?_);show(if g=f then some u else j g)=none;rw[if_neg q];exact z
def Inv.made(I:Inv X pins σ H s):Inv X pins σ (upd (upd H s.heap.objs.size (.own (s.heap.objs.size+1))) (s.heap.objs.size+1) (.ins C s.heap.objs.size []))
  {s with heap:=(s.heap.push PySem.W.emptyDict).push (PySem.W.instObj C s.heap.objs.size)}:=by
 have d:(s.heap.push PySem.W.emptyDict).get? s.heap.objs.size=some PySem.W.emptyDict:=Zv s.heap rfl;have g:((s.heap.push PySem.W.emptyDict).push (PySem.W.instObj C s.heap.objs.size)).get? (s.heap.objs.size+1)=some (PySem.W.instObj C s.heap.objs.size):=by
  have:=Zv (s.heap.push PySem.W.emptyDict) (o:=PySem.W.instObj C s.heap.objs.size) rfl
  rwa [Qn] at this
 have h:(s.heap.push PySem.W.emptyDict).Ns s.heap.objs.size (λ_=>none):=⟨PySem.W.emptyDict,#[],_,d,rfl,(λe i=>absurd i vC),λ_=>rfl⟩;have j:=I.laid (a:=s.heap.objs.size) (o:=.own (s.heap.objs.size+1)) (h':=s.heap.push PySem.W.emptyDict) (t':=s.toks) (λb u q=>Ze _ q) (Zk _) ⟨_,d⟩;refine j.laid (a:=s.heap.objs.size+1) (o:=.ins C s.heap.objs.size []) (t':=s.toks) (λb u q=>Ze _ q) (V4 (Qn _ _)) ?_;have f:s.heap.objs.size≠s.heap.objs.size+1:=Yc (Wj _);refine⟨by rw[Bk f,Bm],Yz _,f,g,λ_=>none,(Heap.Ns1.of_empty h).at λo q=>Ze _ q,λ_=>True.intro,λy l=>absurd rfl l⟩
def ynk{d:Program}{w:World}{env:Env}{e:Expr}{f:Str}{pos:Pos}{s:Shared}{Q:Value->Shared->Prop}(i:attributeBase e f env (eval e env)=eval e env)
 (h:wpAny (model d w) A (eval e env) (λo g=>wpAny (model d w) A (getAttr o f true) Q E g) E s):wpAny (model d w) A (eval (.Attribute e f pos) env) Q E s:=
 Attribute_any_ h (by rw[arm_eval_Attribute,i])
end
def tFld(K:vE)(g:TE)(f:Str):TE:=λh H Q=>g h H λx d=>∃a C i e v,x=.ref a/\d a=some (.ins C i e)/\Cls K C/\NoAttr K C f/\e.lookup f=some v/\Q v d
def sFld(K:vE)(i j:TE)(f:Str):TS:=λD d H=>j d H λy l=>i d l λx g=>∃a C h e,x=.ref a/\g a=some (.ins C h e)/\Cls K C/\NoAttr K C f/\e.length<1000 /\
 D.nx d (upd g a (.ins C h (putF f y e)))
section
variable{X:Cx}{o e value:Expr}{f:Str}{pos pos' tpos:Pos}{ta tv:TE}
def pe_fld(g:PE X e ta)(i:attributeBase e f X.env (eval e X.env)=eval e X.env):PE X (.Attribute e f pos) (tFld X.K ta f):=by
 intro d s j H Q I h;refine ynk i (thn (g d s j H _ I h) λu z ⟨x,m,o,p,a,C,A,B,v,ex,r,c,n,l,q⟩=>?_);subst ex;obtain rfl:u=Value.ref a:=p;exact zut o r c n l λD E t w=>⟨v,m,t,w,q⟩
def znv(g:PE X o ta)(i:PE X value tv)(j:swapsWith value (some (.Attribute o f pos')) pos.line X.env=pure false):PS X (.Assign [.Attribute o f pos'] value pos) (sFld X.K ta tv f):=by
 intro d s e H D I h;refine plainObj_wpAny_Assign_Attribute (thn (i d s e H _ I h) λu m ⟨y,p,r,t,q⟩=>thn (g d m e p _ r q) λv F ⟨x,G,w,z,a,C,J,L,ex,A,c,n,l,B⟩=>?_) j;subst ex;obtain rfl:v=Value.ref a:=z;exact zuc w A c n l t λM E=>⟨e,_,E,B⟩
end
section
variable{X:Cx}{pins:List (Addr×Obj)}{σ:St}{H:Hp}{s:Shared}{A:Around}{E:Value->Shared->Prop}{Q:Value->Shared->Prop}{c:Value}{b:Bool}
end
end L2
namespace L2
open PySem PySem.Spec PyProof.Rows
structure Room(k:Nat)(A:Around):Prop where
 hd:A.handled=none
 dp:A.depth+3*k+5<recursionLimit
 un:A.units+16*k+200<cLine
def Room.mono{j k:Nat}{A:Around}(r:Room k A)(h:j<=k):Room j A:=⟨r.hd,by have:=r.dp;omega,by have:=r.un;omega⟩
theorem Room.deeper{k:Nat}{A:Around}(r:Room (k+1) A)(env:Env):Room k (A.deeper env):=
 ⟨r.hd,by have:=r.dp;show A.depth+1+3*k+5<_;omega,by have:=r.un;show A.units+3+16*k+200<_;omega⟩
def zuo{A:Around}{C:Addr}{d:List Value}{e:List (Str×Value)}:(A.under (.builtin "type.__call__" ⟨.ref C::d,e⟩)).depth=A.depth+1:=by
 first|rfl|simp[Around.under,Code.weight,Code.isCreation,Code.isGuard,Code.isCaller,Code.frames,Code.isFrame,guardIds]
def zun{A:Around}{C:Addr}{d:List Value}{e:List (Str×Value)}:(A.under (.builtin "type.__call__" ⟨.ref C::d,e⟩)).units=A.units+1:=by
 first|rfl|simp[Around.under,Code.cUnits,Code.frames,Code.isFrame]
def Room.make{k:Nat}{A:Around}(r:Room (k+1) A)(C:Addr)(d:List Value)(e:List (Str×Value)):Room k (A.under (.builtin "type.__call__" ⟨.ref C::d,e⟩)):=
 ⟨r.hd,by have:=r.dp;rw[zuo];omega,by have:=r.un;rw[zun];omega⟩
theorem Room.depth{k:Nat}{A:Around}(r:Room k A):A.depth<recursionLimit:=by have:=r.dp;omega
theorem Room.units{k:Nat}{A:Around}(r:Room k A):A.units+64<cLine:=by have:=r.un;omega
def tNil:TA:=λ_ H Q=>Q [] H
def zii(e:TE)(f:TA):TA:=λd H Q=>e d H λx g=>f d g λh i=>Q (x::h) i
section
variable{X:Cx}{e:Expr}{es:List Expr}{te:TE}{t:TA}{pos:Pos}
def zgk:PA X [] tNil:=λ_ _ _ _ H Q I h=>Go ⟨[],H,I,.nil,h⟩
def zcc(g:PE X e te)(i:PA X es t)(j:starEach (e::es) X.env=(false,eval e X.env)::starEach es X.env:=by rfl):PA X (e::es) (zii te t):=by
 intro pos d s f H Q I h;rw[j];show wpAny _ _ (spliced ((false,eval e X.env)::backTo pos (starEach es X.env))) _ _ s;refine Gd (thn (g d s f H _ I h) λu l ⟨x,m,n,o,p⟩=>?_);exact thn (i pos d l f m _ n p) λA B ⟨q,r,v,w,z⟩=>⟨x::q,r,v,.cons o w,z⟩
def tTup(t:TA):TE:=λf H Q=>t f H λd e=>d.length<=sizeLine/\∀p,e p=none->Q (.ref p) (upd e p (.tup d))
def tLst(t:TA):TE:=λf H Q=>t f H λd e=>d.length<=sizeLine/\∀p,e p=none->Q (.ref p) (upd e p (.lst d))
def pe_tup{j}(h:PA X es t):PE X (.Tuple es j pos) (tTup t):=by
 intro d s l H Q I m;refine wpAny_Tuple_spliced (thn (h pos d s l H _ I m) λn f ⟨o,g,i,r,z,q⟩=>⟨by rw[<-r.length];exact z,?_⟩);have p:g f.heap.objs.size=none:=i.hok.fresh (Zk _);refine⟨.ref f.heap.objs.size,upd g f.heap.objs.size (.tup o),i.laid (t':=f.toks) (λb u e=>Ze _ e) (Zk _) ?_,rfl,q _ p⟩
 exact⟨z,n,r,⟨_,Zv _ rfl,rfl,_,rfl⟩⟩
def ygc(h:PA X es t):PE X (.List es pos) (tLst t):=by
 intro d s j H Q I l;refine wpAny_List_spliced (thn (h pos d s j H _ I l) λm f ⟨n,g,i,r,z,q⟩=>⟨by rw[<-r.length];exact z,?_⟩);have o:g f.heap.objs.size=none:=i.hok.fresh (Zk _);refine⟨.ref f.heap.objs.size,upd g f.heap.objs.size (.lst n),i.laid (t':=f.toks) (λb u e=>Ze _ e) (Zk _) ?_,rfl,q _ o⟩
 exact⟨z,m,0,r,Zv _ rfl⟩
end
abbrev Sp:=List V->Hp->VK->XK->Prop
abbrev CXT:=List Env->Hp->Shared->XK->Value->Shared->Prop
structure Env0(P:Program)(w:World)(K:vE)(mg:Str->Option Value)(base:Heap)(A:Around)(outer:List Env)(s:Shared)(H:Hp):Prop where
 frames:A.frames=some outer
 mod:Mod K mg base
 bs:∀b o,base.get? b=some o->s.heap.get? b=some o/\H b=none
 bsz:base.objs.size<=s.heap.objs.size
 funs:s.heap.FunFrames base outer
 frf:∀b∈frs outer,H b=none
 hok:HOk P w H s.heap
 bare:AllBare s.gens
def CE(outer:List Env)(P:Program)(w:World)(H:Hp)(s:Shared)(Q:VK)(u:Value)(d:Shared):Prop:=
 ∃v e,d.os=s.os/\AllBare d.gens/\Un (frs outer) [] H e s.heap d.heap/\HOk P w e d.heap/\RelV v u/\Q v e
def CR(f:CXT)(outer:List Env)(P:Program)(w:World)(H:Hp)(s:Shared)(Q:VK)(E:XK)(r:Result)(d:Shared):Prop:=
 match r with
 |.ok (.ret u)=>CE outer P w H s Q u d
 |.ok _=>False
 |.error e=>f outer H s E e d
structure FnOk(P:Program)(w:World)(K:vE)(mg:Str->Option Value)(base:Heap)(CX:CXT)(k:Nat)(f:Addr)(fd:FuncData)(ps:List Str)(sp:Sp):Prop where
 len:∀vs H Q E,sp vs H Q E->vs.length=ps.length
 run:∀(A:Around) (outer:List Env) (s:Shared) (H:Hp) (args:Args) (us:List Value) (vs:List V) (Q:VK) (E:XK),Room k A->Env0 P w K mg base A outer s H->BindsTo s fd args (ps.zip us)->Vals vs us->sp vs H Q E ->
  codeAny (model P w) A (.call (.ref f) args) (CR CX outer P w H s Q E) s
theorem FnOk.mono{P:Program}{w:World}{K:vE}{mg:Str->Option Value}{base:Heap}{CX:CXT}{j k:Nat}{f:Addr}{fd:FuncData}{ps:List Str}{sp:Sp}(F:FnOk P w K mg base CX j f fd ps sp)(h:j<=k):
  FnOk P w K mg base CX k f fd ps sp:=⟨F.len,λA outer s H args us vs Q E d=>F.run A outer s H args us vs Q E (d.mono h)⟩
def FnOk.imp{P:Program}{w:World}{K:vE}{mg:Str->Option Value}{base:Heap}{CX:CXT}{k:Nat}{f:Addr}{fd:FuncData}{ps:List Str}{sp d:Sp}(F:FnOk P w K mg base CX k f fd ps sp)
 (h:∀vs H Q E,d vs H Q E->sp vs H Q E):FnOk P w K mg base CX k f fd ps d:=
 ⟨λvs H Q E q=>F.len vs H Q E (h _ _ _ _ q),λA outer s H args us vs Q E e g i j l=>F.run A outer s H args us vs Q E e g i j (h _ _ _ _ l)⟩
def Env0.make{P:Program}{w:World}{K:vE}{mg:Str->Option Value}{base:Heap}{A:Around}{outer:List Env}{s:Shared}{H:Hp}(e:Env0 P w K mg base A outer s H)(C:Addr)(d:List Value)(f:List (Str×Value)):
  Env0 P w K mg base (A.under (.builtin "type.__call__" ⟨.ref C::d,f⟩)) outer s H:=⟨by first|exact e.frames|(simpa[Around.under,Code.envs,Code.isFrame,pushEnvs] using e.frames),e.mod,e.bs,e.bsz,e.funs,e.frf,e.hok,e.bare⟩
section
variable{X:Cx}{pins:List (Addr×Obj)}{σ:St}{H:Hp}{s s':Shared}
def Inv.env0(I:Inv X pins σ H s):Env0 X.prog X.w X.K X.mg X.base X.A X.stack s H:=
 ⟨I.ok.frames,I.ok.mod,I.bs,Wd I.ok.bsz I.sz,I.stack,I.stkFree,I.hok,I.bare⟩
def Inv.after{Q:VK}{u:Value}(I:Inv X pins σ H s)(h:CE X.stack X.prog X.w H s Q u s'):EP X pins σ Q u s':=by
 obtain⟨v,f,os,bare,un,hok,r,q⟩:=h
 obtain⟨i,g,d,t,e⟩:=s'
 obtain rfl:e=s.os:=os;exact⟨v,f,I.call (h':=i) (g':=g) (d':=d) (t':=t) (ch:=[]) un hok bare (λb z=>absurd z vC),r,q⟩
end
def zpq(e:Sp)(d:List V)(E:XK)(t:TA):TE:=λf H Q=>t f H λg h=>e (g++d) h Q E
def tMake(C:Addr)(g:Sp)(e:List V)(E:XK)(t:TA):TE:=λh H Q=>t h H λi f=>∀x d,f x=none->f d=none->d≠x ->
 g (.ref x::(i++e)) (upd (upd f d (.own x)) x (.ins C d [])) (λv j=>v=.non/\Q (.ref x) j) E
def Binds(K:vE)(g:FuncData)(e:List Str)(f:List Value):Prop:=
 ∀(s:Shared) (d:List Value),K.In s.heap->(d++f).length=e.length->BindsTo s g ⟨d,[]⟩ (e.zip (d++f))
def Binds.all{K:vE}{f:FuncData}{e:List Str}(h:∀d:List Value,d.length=e.length->bindArgs f ⟨d,[]⟩=pure (e.zip d)):Binds K f e []:=λs d _ g=>by
 rw[K3] at g |-;exact .of_eq (h d g)
def zph(g:CXT)(X:Cx)(E:XK):Prop:=∀(d:List (Addr×Obj)) (h:St) (H:Hp) (s:Shared) (e:Value) (f:Shared),Inv X d h H s->g X.stack H s E e f->X.xe e f
section
variable{X:Cx}{CX:CXT}{k:Nat}{f C:Addr}{fd:FuncData}{ps:List Str}{sp:Sp}{dvs:List V}{ds:List Value}{E:XK}{x m:Str}{p pos apos:Pos}{e o:Expr}{es:List Expr}{ta:TE}{t:TA}
def run_fn{d:List (Addr×Obj)}{l:St}{H:Hp}{s:Shared}{Q:VK}{g:List Value}{j:List V}(F:FnOk X.prog X.w X.K X.mg X.base CX k f fd ps sp)(n:Room k X.A)(o:Binds X.K fd ps ds)(p:Vals dvs ds)(q:zph CX X E)
 (I:Inv X d l H s)(r:Vals j g)(h:sp (j++dvs) H Q E):wpAny (model X.prog X.w) X.A (call (.ref f) g) (EP X d l Q) X.xe s:=by
 have m:Vals (j++dvs) (g++ds):=r.append p;have t:(g++ds).length=ps.length:=by rw[<-m.length];exact F.len _ _ _ _ h
 refine wpAny_call (Vd (F.run X.A X.stack s H ⟨g,[]⟩ (g++ds) (j++dvs) Q E n I.env0 (o s g I.kIn t) m h) λr v i=>?_);cases r with
 |error e=>exact q d l H s e v I i
 |ok z=>
  cases z with
  |ret u=>exact I.after i
  |next=>exact False.elim i
  |brk=>exact False.elim i
  |cont=>exact False.elim i
def zqf(F:FnOk X.prog X.w X.K X.mg X.base CX k f fd ps sp)(l:Room k X.A)(m:Gl X x)(n:X.mg x=some (.ref f))(o:PySem.W.keepIn X.K (.ref f)=true)(u:Binds X.K fd ps ds)(v:Vals dvs ds)(z:zph CX X E)
 (B:PA X (e::es) t)(g:(x == ("__debug__" : Str))=false:=by decide)(C:starEach (e::es) X.env=(false,eval e X.env)::starEach es X.env:=by rfl)(i:(backTo pos (starEach es X.env)).any (·.1)=false:=by rfl):
  PE X (.Call (.Name x p) (e::es) [] pos) (zpq sp dvs E t):=by
 intro d s D H Q I h;refine Qx (zye I m n ?_ g);refine Vt (h₀:=X.base) I.ok.mod.kin o (thn (B pos d s D H _ I h) λG J ⟨L,M,j,r,q⟩=>⟨j.kIn,?_⟩) C i;exact run_fn F l u v z j r q
structure Mk(K:vE)(C f:Addr):Prop where
 makes:PySem.W.makesIn K C=true
 init:PySem.W.findIn K (.ref C) "__init__" = some (some (.ref f))
 fn:PySem.W.isFn K (.ref f)=true
 kp:PySem.W.keepIn K (.ref C)=true
def ycd{d:List (Addr×Obj)}{m:St}{H:Hp}{s:Shared}{Q:VK}{i:List Value}{n:List V}(M:Mk X.K C f)(F:FnOk X.prog X.w X.K X.mg X.base CX k f fd ps sp)(q:Room (k+1) X.A)(t:Binds X.K fd ps ds)(z:Vals dvs ds)
 (B:zph CX X E)(I:Inv X d m H s)(r:Vals n i)
 (h:∀x j,H x=none->H j=none->j≠x->sp (.ref x::(n++dvs)) (upd (upd H j (.own x)) x (.ins C j [])) (λv D=>v=.non/\Q (.ref x) D) E):
  wpAny (model X.prog X.w) X.A (call (.ref C) i) (EP X d m Q) X.xe s:=by
 have o:=h (s.heap.objs.size+1) s.heap.objs.size (I.hok.fresh (Jg _)) (I.hok.fresh (Zk _)) (Yc (Wj _));have l:=Inv.made (C:=C) I;have p:Vals (V.ref (s.heap.objs.size+1)::(n++dvs)) (Value.ref (s.heap.objs.size+1)::(i++ds)):=.cons rfl (r.append z);have G:(Value.ref (s.heap.objs.size+1)::i++ds).length=ps.length:=by
  have e:=p.length;rw[F.len _ _ _ _ o] at e;exact e.symm
 refine wpAny_call (yda (f:=f) I.kIn M.makes M.init (beq_iff_eq.mp M.fn) (Vd (F.run _ X.stack _ _ ⟨Value.ref (s.heap.objs.size+1)::i,[]⟩ (Value.ref (s.heap.objs.size+1)::(i++ds)) _ _ E (q.make C i [])
  (l.env0.make C i []) (t _ (Value.ref (s.heap.objs.size+1)::i) l.kIn G) p o) λr J g=>?_))
 cases r with
 |error e=>exact B d m _ _ e J l g
 |ok L=>
  cases L with
  |ret u=>
   obtain⟨v,N,O,P,ev,R⟩:=l.after g
   subst ev;exact⟨P,⟨V.ref (s.heap.objs.size+1),N,O,rfl,R⟩⟩
  |next=>exact False.elim g
  |brk=>exact False.elim g
  |cont=>exact False.elim g
def yjn(M:Mk X.K C f)(F:FnOk X.prog X.w X.K X.mg X.base CX k f fd ps sp)(l:Room (k+1) X.A)(m:Gl X x)(n:X.mg x=some (.ref C))(o:Binds X.K fd ps ds)(u:Vals dvs ds)(v:zph CX X E)
 (z:PA X (e::es) t)(g:(x == ("__debug__" : Str))=false:=by decide)(B:starEach (e::es) X.env=(false,eval e X.env)::starEach es X.env:=by rfl)(i:(backTo pos (starEach es X.env)).any (·.1)=false:=by rfl):
  PE X (.Call (.Name x p) (e::es) [] pos) (tMake C sp dvs E t):=by
 intro d s D H Q I h;refine Qx (zye I m n ?_ g);refine Vt (h₀:=X.base) I.ok.mod.kin M.kp (thn (z pos d s D H _ I h) λG J ⟨L,N,j,r,q⟩=>⟨j.kIn,?_⟩) B i;exact ycd M F l o u v j r q
end
section
variable{X:Cx}{CX:CXT}{k:Nat}{f C:Addr}{fd:FuncData}{ps ks:List Str}{sp:Sp}{E:XK}{x m:Str}{p pos apos kpos:Pos}{e o:Expr}{es:List Expr}{kws:List Keyword}{te ta:TE}{t tk:TA}{nm:Option Str}
variable{g:List Value->List Value->List Value}{gV:List V->List V->List V}
end
structure FnScope(N P:List Str)(sc:Scope):Prop where
 kind:sc.kind=.function
 co:sc.isCoroutine=false
 gen:sc.isGenerator=false
 nd:N.Nodup
 pre:N.take P.length=P
 par:∀x∈P,sc.names.lookup x=some .local\/sc.names.lookup x=some .cell
 nofree:∀y∈sc.names,y.2 ≠ .free
theorem zoy{e:Str->Option NameKind}{x:Str}:∀{d:List (Str×Value)}{m:Str->Option Value},(∀v,(x,v)∉d)->bindL e d m x=m x
 |[],_,_=>rfl
 |(n,v)::r,m,h=>by
  unfold bindL;rw[zoy λw f=>h w (Yv _ f)];split
  ·have:x≠n:=by rintro rfl;exact h v Wi
   simp[this]
  ·rfl
theorem zpa{e:Str->Option NameKind}{x:Str}:∀{d:List (Str×Value)}{m:Str->Option Value},(∀v,(x,v)∉d)->bindC e d m x=m x
 |[],_,_=>rfl
 |(n,v)::r,m,h=>by
  unfold bindC;rw[zpa λw f=>h w (Yv _ f)];split
  ·rfl
  ·have:x≠n:=by rintro rfl;exact h v Wi
   simp[this]
theorem zoz{d:Str->Option NameKind}{x:Str}{v:Value}:∀{P:List Str}{e:List Value}{i:Nat}{m:Str->Option Value},P.Nodup->P[i]? = some x->e[i]? = some v->d x=some .local ->
  bindL d (P.zip e) m x=some v
 |[],_,_,_,_,h,_,_=>by simp at h
 |_::_,[],_,_,_,_,h,_=>by simp at h
 |p::P,w::e,0,m,j,f,g,l=>by
  simp at f g;subst f;subst g
  show bindL d ((p,w)::P.zip e) m p=_;unfold bindL;rw[zoy λv n=>(Wq.mp j).1 (U1 n).1,if_pos l];simp
 |p::P,w::e,i+1,m,j,f,g,l=>by
  show bindL d ((p,w)::P.zip e) m x=_;unfold bindL;exact zoz (i:=i) (Wq.mp j).2 (by simpa using f) (by simpa using g) l
theorem zpb{d:Str->Option NameKind}{x:Str}{v:Value}:∀{P:List Str}{e:List Value}{i:Nat}{m:Str->Option Value},P.Nodup->P[i]? = some x->e[i]? = some v->d x≠some .local ->
  bindC d (P.zip e) m x=some v
 |[],_,_,_,_,h,_,_=>by simp at h
 |_::_,[],_,_,_,_,h,_=>by simp at h
 |p::P,w::e,0,m,j,f,g,l=>by
  simp at f g;subst f;subst g
  show bindC d ((p,w)::P.zip e) m p=_;unfold bindC;rw[zpa λv n=>(Wq.mp j).1 (U1 n).1,if_neg l];simp
 |p::P,w::e,i+1,m,j,f,g,l=>by
  show bindC d ((p,w)::P.zip e) m x=_;unfold bindC;exact zpb (i:=i) (Wq.mp j).2 (by simpa using f) (by simpa using g) l
def start(N:List Str)(d:List V):St:=d.map some++List.replicate (N.length-d.length) none
def cxOf(i:CXT)(P:Program)(w:World)(K:vE)(mg:Str->Option Value)(base:Heap)(N:List Str)(d:Str)(scope:Scope)(f:Addr)(h:Value)(A:Around)(outer:List Env)(s:Shared)(H:Hp)(E:XK):Cx where
 prog:=P
 w:=w
 K:=K
 mg:=mg
 base:=base
 A:=A.deeper (envOfC d scope s.heap.objs.size f h)
 N:=N
 s₀:=s
 H₀:=H
 env:=envOfC d scope s.heap.objs.size f h
 outer:=outer
 stack:=envOfC d scope s.heap.objs.size f h::outer
 ex:=[]
 calm:=true
 fn:=λ_=>true
 pn:=[]
 xe:=λe j=>wpAny (model P w) (A.deeper (envOfC d scope s.heap.objs.size f h)) (leaving (envOfC d scope s.heap.objs.size f h) e) (λ_ g=>i outer H s E e g) (λl g=>i outer H s E l g) j
def zte{d:Scope}{n:Nat}{x:Str}(h:d.names.lookup x=some .cell):∃c,(cellsFrom n d.names []).lookup x=some c:=by
 have q:=Ve d.names n [] (.inl h);exact U7.mp q
def zyi{M:CXT}{P:Program}{w:World}{K:vE}{J:Str->Option Value}{j:Heap}{N m:List Str}{d:Str}{scope:Scope}{f:Addr}{F:Value}{A:Around}{outer:List Env}{s O:Shared}{H:Hp}{E:XK}{L:List Value}{o:List V}
 (S:FnScope N m scope)(T:A.handled=none)(l:Env0 P w K J j A outer s H)(Z:o.length=m.length)(r:Vals o L)
 (x:InCallC s s.heap.objs.size (bindL (envOfC d scope s.heap.objs.size f F).kindOf (m.zip L) λ_=>none) (cellsFrom (s.heap.objs.size+1) scope.names []) (bindC (envOfC d scope s.heap.objs.size f F).kindOf (m.zip L) λ_=>none) O):
  Inv (cxOf M P w K J j N d scope f F A outer s H E) [] (start N o) H O:=by
 have U:m.length<=N.length:=by have:=congrArg List.length S.pre;rw[Wb] at this;omega
 obtain⟨G,tk,rfl,Q⟩:=x.done
 have t:∀b:Addr,b∉(cxOf M P w K J j N d scope f F A outer s H E).ex:=λb z=>absurd (show b∈([]:List Addr) from z) vC
 refine⟨⟨l.mod,S.kind,rfl,rfl,Zk _,λy z c G g=>?_,λy B=>?_,λy c _ h=>?_,λ_=>T,Around.frames_deeper l.frames,.inr ⟨rfl,rfl⟩,λb z=>absurd z (t b),l.bs,l.bsz,λb _ _=>t b,λb z=>absurd z (t b),l.funs,l.frf⟩,
  rfl,l.bare,Un.kept Q,⟨_,x.toInCall.ns,λi y v G g h3=>?_⟩,λy c h=>⟨_,x.cell y c h⟩,l.hok.fresh (Zk _),λy c h=>?_,λp C=>absurd (show p∈([]:List (Addr×Obj)) from C) vC,l.hok.kept Q,?_⟩
 ·exact name_of_addr x.apart (Q8 G) (Q8 g)
 ·have B:scope.names.lookup y=some .cell\/scope.names.lookup y=some .free:=B;rcases B with B|B
  ·exact zte B
  ·exact absurd rfl (S.nofree _ (Q8 B))
 ·exact Uq (x.above y c (Q8 h))
 ·have I:i<o.length:=by
   unfold start at g;by_cases I:i<o.length
   ·exact I
   ·rw[Yb (by simpa using I)] at g;rw[Y9] at g;split at g<;>cases g
  have X:o[i]? = some v:=by
   unfold start at g;rw[Yt (by simpa using I),Zi] at g;cases e:o[i]? with
   |none=>rw[e] at g;cases g
   |some a=>rw[e] at g;cases g;rfl
  obtain⟨u,R,Y⟩:=r.get X
  have C:m[i]? = some y:=by
   rw[<-S.pre,Jd vB];exact G
  have D:m.Nodup:=by rw[<-S.pre];exact S.nd.sublist (List.take_sublist _ _)
  refine⟨u,Y,?_⟩
  rcases S.par y (Yg C) with k|k
  ·exact .inl ⟨k,zoz D C R k⟩
  ·obtain⟨c,e⟩:=zte (n:=s.heap.objs.size+1) k
   refine .inr ⟨.inl k,c,e,?_⟩;have q:=x.cell y c e;rw[zpb D C R (by show scope.names.lookup y≠_;rw[k];decide)] at q;exact q
 ·exact l.hok.fresh (Uq (x.above y c (Q8 h)))
 ·unfold start;show _=N.length;rw[Z7,Zd,Yy];omega
def fn_of{M:CXT}{P:Program}{w:World}{K:vE}{O:Str->Option Value}{h:Heap}{k:Nat}{f:Addr}{name d:Str}{i:Arguments}{j:List Stmt}{scope:Scope}{dV kV D pm g ct oc:Value}{an od:Option Addr}
 {T:Array (Option Value)}{N R:List Str}{U:Sp}(lk:K.lookup f=some ⟨oc,od,.func (PySem.W.fnOf name d i j scope dV kV D pm an g ct),T⟩)(X:PySem.W.codeIn K g d=true)(S:FnScope N R scope)
 (len:∀l H Q E,U l H Q E->l.length=R.length)
 (z:∀(A:Around) (outer:List Env) (s:Shared) (H:Hp) (l:List V) (Q:VK) (E:XK),Room k (A.deeper (envOfC d scope s.heap.objs.size f g))->U l H Q E ->
   ∃t,PSs (cxOf M P w K O h N d scope f g A outer s H E) j t/\t {nx:=λ_ p=>Q .non p,rt:=Q} (start N l) H):
  FnOk P w K O h M (k+1) f (PySem.W.fnOf name d i j scope dV kV D pm an g ct) R U:=by
 refine⟨len,λA outer s H args us l Q E Y F hb r G=>?_⟩
 have hl:=len _ _ _ _ G;have KX:K.In s.heap:=F.mod.kin.keeps λb o e=>(F.bs b o e).1
 have Z:s.heap.NoLimit:=F.mod.nolimit.keeps λb o e=>(F.bs b o e).1
 have B:∀y∈R.zip us,scope.names.lookup y.1=some .local\/(scope.names.lookup y.1=some .cell/\((cellsFrom (s.heap.objs.size+1) scope.names []).lookup y.1).isSome=true):=λ⟨n,v⟩ hy=>by
  rcases S.par n (U1 hy).1 with q|q
  ·exact .inl q
  ·exact .inr ⟨q,Ve _ _ _ (.inl q)⟩
 refine codeAny_call_function Y.depth (KX _ _ lk) rfl S.co S.gen rfl (PySem.W.codeRec_of KX X) (hb _ _ _ _ ?_);refine wpAny_newFunctionEnv_cells S.kind B λa0 he s1 x=>?_;subst he;refine⟨Z.keeps x.toInCall.keep,codeAny_func ?_⟩
 obtain⟨t,ht,hq⟩:=z A outer s H l Q E (Y.deeper _) G
 have I:Inv (cxOf M P w K O h N d scope f g A outer s H E) [] (start N l) H s1:=zyi S Y.hd F hl r x;refine Ua (ht [] s1 (start N l) H _ I hq) (λfl s' C=>?_) λe s' C=>C
 have L:∀{m:St}{p:Hp}{v:V}{u:Value},Inv (cxOf M P w K O h N d scope f g A outer s H E) [] m p s'->RelV v u->Q v p->CE outer P w H s Q u s':=
  λ{m p v u} J rv q=>⟨v,p,J.os,J.bare,J.base,J.hok,rv,q⟩
 cases fl with
 |ret u=>
  obtain⟨v,m,p,J,rv,q⟩:=C
  exact L J rv q
 |next=>
  obtain⟨m,p,J,q⟩:=C
  exact L (v:=V.non) (u:=Value.none) J rfl q
 |brk=>
  obtain⟨_,_,_,q⟩:=C
  exact False.elim q
 |cont=>
  obtain⟨_,_,_,q⟩:=C
  exact False.elim q
end L2
namespace L2
open PySem PySem.Spec PyProof.Rows
section
variable{X:Cx}{x:Str}{p pos:Pos}{e:Expr}{es:List Expr}{t:TA}{id T:String}{r:List V->Hp->VK->Prop}
def tCB(r:List V->Hp->VK->Prop)(t:TA):TE:=λd H Q=>t d H λe f=>r e f Q
def zrz(j:zgi X (.builtin id) r)(l:Gl X x)(m:X.mg x=none)(n:bootBuiltins x=some (.builtin id))(o:PA X (e::es) t)(q:x ≠ "__name__" := by decide)(f:(x == ("__debug__" : Str))=false:=by decide)
 (u:starEach (e::es) X.env=(false,eval e X.env)::starEach es X.env:=by rfl)(g:(backTo pos (starEach es X.env)).any (·.1)=false:=by rfl):PE X (.Call (.Name x p) (e::es) [] pos) (tCB r t):=by
 intro d s i H Q I h;refine Qx (zef I l m n ?_ q f);exact PyProof.Rows.callWith_builtin1 (thn (o pos d s i H _ I h) λv w ⟨z,A,B,C,D⟩=>j d w i A z v Q B C D) u g
def zxj(j:zgi X (.type T) r)(l:Gl X x)(m:X.mg x=none)(n:bootBuiltins x=some (.type T))(o:PA X (e::es) t)(q:x ≠ "__name__" := by decide)(f:(x == ("__debug__" : Str))=false:=by decide)
 (u:starEach (e::es) X.env=(false,eval e X.env)::starEach es X.env:=by rfl)(g:(backTo pos (starEach es X.env)).any (·.1)=false:=by rfl):PE X (.Call (.Name x p) (e::es) [] pos) (tCB r t):=by
 intro d s i H Q I h;refine Qx (zef I l m n ?_ q f);exact Ys (thn (o pos d s i H _ I h) λv w ⟨z,A,B,C,D⟩=>j d w i A z v Q B C D) u g
end
end L2
namespace HT
open PySem PyProof.Rows
section
open PySem.SeqAt
open PySem.AutoSeq1 (wpAny_loadPart')
open PySem.MeetsSeq PySem.MeetsSeq2 PySem.MeetsSeq3
end
section
variable{prog:Program}{w:World}{A:Around}{E:Value->Shared->Prop}{s:Shared}
def sIx(n d:Nat):Option Int->Nat
 |none=>d
 |some v=>if v<0 then(v+(n:Int)).toNat else min v.toNat n
def sIx_none(n d:Nat):sIx n d none=d:=rfl
def sIx_nat(n d k:Nat):sIx n d (some (k:Int))=min k n:=by
 show(if (k:Int)<0 then((k:Int)+(n:Int)).toNat else min (k:Int).toNat n)=min k n;rw[if_neg vB,Z1]
end
end HT
namespace L2
open PySem PySem.Spec PyProof.Rows
abbrev TO:=St->Hp->(Option Int->Hp->Prop)->Prop
def PO(X:Cx)(e:Option Expr)(t:TO):Prop:=
 ∀(d:List (Addr×Obj)) (s:Shared) (f:St) (H:Hp) (Q:Option Int->Hp->Prop),Inv X d f H s->t f H Q ->
  wpAny (model X.prog X.w) X.A (evalPart e X.env) (λu h=>∃o g,Inv X d f g h/\IsPart u o/\Q o g) X.xe s
def yhz:TO:=λ_ H Q=>Q none H
def tPart(t:TE):TO:=λd H Q=>t d H λx e=>∃i,x=.int i/\Q (some i) e
section
variable{X:Cx}{e:Expr}{te:TE}{lo hi:Option Expr}{tl th:TO}{pos p2:Pos}
def yjl:PO X none yhz:=by
 intro d s e H Q I h;rw[evalPart_none];exact Zp ⟨none,H,I,.none,h⟩
def yjk(h:PE X e te):PO X (some e) (tPart te):=by
 intro d s f H Q I g;rw[evalPart_some];refine thn (h d s f H _ I g) λu o ⟨x,j,l,m,n⟩=>?_;obtain⟨i,rfl,q⟩:=n
 obtain⟨t,rfl⟩:=m
 exact⟨some i,j,l,.int i t,q⟩
def SlR(X:Cx)(r:V->Option Int->Option Int->Hp->VK->Prop):Prop:=
 ∀(d:List (Addr×Obj)) (s:Shared) (e:St) (H:Hp) (x:V) (v f g:Value) (lo hi:Option Int) (h:Addr) (Q:VK),Inv X d e H s->RelV x v->s.heap.IsSliceOf h f g .none->IsPart f lo->IsPart g hi->r x lo hi H Q ->
  ∃T id,typeLookup (.type T) "__getitem__" = pure (some (.builtin id))/\s.TypeIs v T/\wpAny (model X.prog X.w) X.A (getItem v (.ref h)) (EP X d e Q) X.xe s
def tSl(r:V->Option Int->Option Int->Hp->VK->Prop)(te:TE)(tl th:TO):TE:=λd H Q=>te d H λx e=>tl d e λl f=>th d f λu H3=>r x l u H3 Q
def ycj{r:V->Option Int->Option Int->Hp->VK->Prop}(m:SlR X r)(n:PE X e te)(o:PO X lo tl)(p:PO X hi th):PE X (.Subscript e (.Slice lo hi none p2) pos) (tSl r te tl th):=by
 intro d s g H Q I h;refine Subscript_ (thn (n d s g H _ I h) λv t ⟨x,z,B,C,D⟩=>?_);refine wpAny_Slice (thn (o d t g z _ B D) λi E ⟨l,F,G,pl,J⟩=>thn (p d E g F _ G J) λj f ⟨u,H3,K,L,M⟩=>?_);rw[evalPart_none];refine Zp ?_;have N:Inv X d g H3 {f with heap:=f.heap.push {cls:=.type "slice",data:=.fields #[i,j,.none]} }:=K.kept (t':=f.toks) λb S q=>Ze _ q
 obtain⟨T,id,O,P,R⟩:=m d {f with heap:=f.heap.push {cls:=.type "slice",data:=.fields #[i,j,.none]} } g H3 x v i j l u f.heap.objs.size Q N C (Heap.IsSliceOf.new ..) pl L M
 show wpAny (model X.prog X.w) X.A (subscriptTail e (.Slice lo hi none p2) v (.ref f.heap.objs.size)) (EP X d g Q) X.xe {f with heap:=f.heap.push {cls:=.type "slice",data:=.fields #[i,j,.none]} };exact tail_any (ops:=[.ref f.heap.objs.size,v]) P O R (by with_unfolding_all rfl)
def cutV(d:List V)(lo hi:Option Int):List V:=(d.drop (HT.sIx d.length 0 lo)).take (HT.sIx d.length d.length hi-HT.sIx d.length 0 lo)
def zqw(d:List V)(lo hi:Option Int):(cutV d lo hi).length<=d.length:=by
 unfold cutV;rw[Wb,Yo];omega
end
end L2
namespace L2
open PySem PySem.Spec PyProof.Rows
def ixN(n:Nat)(i:Int):Option Nat:=if 0<=i then(if i<n then some i.toNat else none) else if -(n:Int)<=i then some (i+n).toNat else none
def atI{d:Type}(e:List d)(i:Int):Option d:=(ixN e.length i).bind λj=>e[j]?
def ixN_seq{n:Nat}{i:Int}{j:Nat}(h:ixN n i=some j):seqIndex? i n=some j/\j<n /\ -(n:Int)<=i/\i<n:=by
 unfold ixN at h;by_cases f:0<=i
 ·rw[if_pos f] at h;by_cases d:i<n
  ·rw[if_pos d] at h;have e:i.toNat=j:=Z0 h;exact⟨by rw[seqIndex_of f d,e],by omega,by omega,d⟩
  ·rw[if_neg d] at h;cases h
 ·rw[if_neg f] at h;by_cases d : -(n:Int)<=i
  ·rw[if_pos d] at h;have e:(i+n).toNat=j:=Z0 h;exact⟨by rw[G5 vB d,e],by omega,d,by omega⟩
  ·rw[if_neg d] at h;cases h
def yah{f:Type}{d:List f}{i:Int}{v:f}(h:atI d i=some v):∃j,seqIndex? i d.length=some j/\d[j]? = some v/\j<d.length /\ -(d.length:Int)<=i/\i<d.length:=by
 unfold atI at h;cases e:ixN d.length i with
 |none=>rw[e] at h;cases h
 |some j=>
  rw[e] at h;obtain⟨g,l,m,n⟩:=ixN_seq e
  exact⟨j,g,h,l,m,n⟩
def atI_last{f:Type}(d:List f)(v:f):atI (d++[v]) (-1)=some v:=by
 have g:(d++[v]).length=d.length+1:=by simp
 have e:ixN (d++[v]).length (-1)=some d.length:=by
  unfold ixN;rw[g,if_neg vA,if_pos vB];congr 1
  omega
 unfold atI;rw[e];show(d++[v])[d.length]? = some v;simp
def yam(b:Expr):Prop:=∀o i,subscripted b false o i=operate [o,i] (getItem o i)
def IxR(X:Cx)(r:R2):Prop:=
 ∀(d slice:Expr) (pins:List (Addr×Obj)) (s:Shared) (e:St) (H:Hp) (x y:V) (v u:Value) (Q:VK),Inv X pins e H s->RelV x v->RelV y u->r x y H Q ->
  subscripted slice false v u=operate [v,u] (getItem v u)->wpAny (model X.prog X.w) X.A (subscriptTail d slice v u) (EP X pins e Q) X.xe s
def MtR(X:Cx)(id:String)(r:V->List V->Hp->VK->Prop):Prop:=
 ∀(d:List (Addr×Obj)) (s:Shared) (e:St) (H:Hp) (x:V) (f:List V) (v:Value) (g:List Value) (Q:VK),Inv X d e H s->RelV x v->Vals f g->r x f H Q ->
  wpAny (model X.prog X.w) X.A (call (.builtin id) (v::g)) (EP X d e Q) X.xe s
section
variable{X:Cx}{a b:Expr}{ta tb:TE}{pos:Pos}
def pe_ix{r:R2}(e:IxR X r)(f:PE X a ta)(g:PE X b tb)(i:yam b):PE X (.Subscript a b pos) (tOp r ta tb):=by
 intro d s j H Q I h;exact Subscript_ (binT f g I h λv u l x y m n o p q=>e a b d l j m x y v u Q n o p q (i _ _))
def rIxL(K:vE):R2:=λx y H Q=>∃p d i v,x=.ref p/\y=.int i/\SqL K H p d/\atI d i=some v/\Q v H
def rIxT(K:vE):R2:=λx y H Q=>∃p d i v,x=.ref p/\y=.int i/\SqT K H p d/\atI d i=some v/\Q v H
def ykz:IxR X (rIxL X.K):=by
 intro g slice d s o H x y v u Q I D E h A;obtain⟨p,P,i,z,rfl,rfl,F,G,q⟩:=h
 cases D;obtain⟨t,rfl⟩:=E
 obtain⟨l,r,pl,R⟩:=I.list F
 obtain⟨j,f,J,S,L,M⟩:=yah G
 obtain⟨w,B,m⟩:=r.get J
 have N:=r.length;have T:=zsh;have e:EP X d o Q w s:=⟨z,H,I,m,q⟩;by_cases C:0<=i
 ·have n:i.toNat=j:=by
   rw[seqIndex_of C M] at f;exact Z0 f
  exact item_listR pl.isList C vB (by rw[n];simpa using B) e A
 ·have n:(i+(l.toArray.size:Int)).toNat=j:=by
   rw[G5 vB L] at f;rw[Zl,<-N];exact Z0 f
  exact Gq (x:=w) pl.isList.typeIs slot_list_getitem.lookup
   (wpAny_getItem_list_neg (Q:=λr O=>r=w/\EP X d o Q r O) pl.isList vB (by rw[Zl]<;>omega) vB (by rw[n];simpa using B) ⟨rfl,e⟩) A
def ix_tup:IxR X (rIxT X.K):=by
 intro e slice d s l H x y v u Q I m n h o;obtain⟨p,L,i,z,rfl,rfl,A,B,q⟩:=h
 cases m;obtain⟨t,rfl⟩:=n
 obtain⟨C,r,pl,M⟩:=I.tuple A
 obtain⟨j,D,E,N,O,P⟩:=yah B
 obtain⟨w,F,f⟩:=r.get E
 have G:=r.length;have R:=zsh;have g:EP X d l Q w s:=⟨z,H,I,f,q⟩;exact Gq (x:=w) pl.typeIs slot_tuple_getitem.lookup
  (getItem_tuple (j:=j) (Q:=λr J=>r=w/\EP X d l Q r J) pl vB vB (by rw[Zl,<-G];exact D) (by simpa using F) ⟨rfl,g⟩) o
def zum(d:List Value)(n j:Nat)(u:Value):Obj.mapSeq (·.setIfInBounds j u) {cls:=.type "list",data:=.seq d.toArray n}={cls:=.type "list",data:=.seq (d.set j u).toArray n}:=by
 simp[Obj.mapSeq]
theorem Inv.lst{pins:List (Addr×Obj)}{σ:St}{H:Hp}{s:Shared}{p:Addr}{f:List V}(I:Inv X pins σ H s)(h:H p=some (.lst f)):
  ∃(d:List Value) (n:Nat),Vals f d/\s.heap.get? p=some {cls:=.type "list",data:=.seq d.toArray n}/\f.length<=sizeLine:=by
 obtain⟨z,d,n,r,e⟩:=I.hok p _ h
 exact⟨d,n,r,e,z⟩
def Inv.lstUpd{pins:List (Addr×Obj)}{σ:St}{H:Hp}{s:Shared}{p:Addr}{m i:List V}{g d:List Value}{n j:Nat}{f:Obj->Obj}(I:Inv X pins σ H s)(h:H p=some (.lst m))
 (o:s.heap.get? p=some {cls:=.type "list",data:=.seq g.toArray n})(l:f {cls:=.type "list",data:=.seq g.toArray n}={cls:=.type "list",data:=.seq d.toArray j})(r:Vals i d)(v:i.length<=sizeLine)(t:Nat):
  Inv X pins σ (upd H p (.lst i)) {s with heap:=s.heap.update p f,toks:=t}:=by
 have e:(s.heap.update p f).get? p=some {cls:=.type "list",data:=.seq d.toArray j}:=by
  rw[Wh f o (by rw[l]<;>rfl),l]
 refine I.write (x:=p) (e:=p) (by rw[h];trivial) (.inl rfl) (λb u w q=>(Yn _ _ (Wn w)).trans q) ⟨_,e⟩ ?_;exact⟨v,d,j,r,e⟩
def rSetL:V->V->V->Hp->(Hp->Prop)->Prop:=λo i v H Q=>∃p d k j,o=.ref p/\i=.int k/\H p=some (.lst d)/\ixN d.length k=some j/\Q (upd H p (.lst (d.set j v)))
def ybt:PSet X rSetL:=by
 intro d s D H o i v M N u Q I E F G h;obtain⟨p,J,k,j,rfl,rfl,w,K,q⟩:=h
 cases E;obtain⟨t,rfl⟩:=F
 obtain⟨e,n,r,g,L⟩:=I.lst w
 obtain⟨f,O,z,A⟩:=ixN_seq K
 have l:=r.length;have P:=zsh;have B:Inv X d D (upd H p (.lst (J.set j v))) {s with heap:=s.heap.update p (Obj.mapSeq (·.setIfInBounds j u))}:=
  I.lstUpd w g (zum e n j u) (r.set G j) (by rw[Wr];exact L) s.toks
 by_cases C:0<=k
 ·have m:k.toNat=j:=by
   rw[seqIndex_of C A] at f;exact Z0 f
  exact PySem.W.ki_setAt g C vB (by rw[Zl,<-l];exact A) (by rw[m];exact⟨_,B,q⟩)
 ·have m:(k+(e.toArray.size:Int)).toNat=j:=by
   rw[G5 vB z] at f;rw[Zl,<-l];exact Z0 f
  exact PySem.W.ki_setBack g vB (by rw[Zl,<-l];exact z) vB (by rw[m];exact⟨_,B,q⟩)
def znj(d e:Option Int)(n:Nat):(sliceBounds d e none n).1=((HT.sIx n 0 d:Nat):Int)/\(sliceBounds d e none n).2.1=((HT.sIx n n e:Nat):Int)/\(sliceBounds d e none n).2.2=1:=by
 refine⟨?_,?_,rfl⟩
 ·cases d with
  |none=>simp[sliceBounds,HT.sIx]
  |some i=>
   simp only[sliceBounds,HT.sIx,Gj,show(1:Int) > 0 by decide,if_true];by_cases h:i<0
   ·simp only[h,if_true]<;>omega
   ·simp only[h,if_false]<;>omega
 ·cases e with
  |none=>simp[sliceBounds,HT.sIx]
  |some i=>
   simp only[sliceBounds,HT.sIx,Gj,show(1:Int) > 0 by decide,if_true];by_cases h:i<0
   ·simp only[h,if_true]<;>omega
   ·simp only[h,if_false]<;>omega
def zlf(d:List Value)(e f:Option Int):slicePick d.toArray e f none=((d.drop (HT.sIx d.length 0 e)).take (HT.sIx d.length d.length f-HT.sIx d.length 0 e)).toArray:=by
 obtain⟨g,h,i⟩:=znj e f d.toArray.size
 unfold slicePick;rw[g,h,i];simp only[sliceRange_one,pick_run,Zl]<;>rfl
def rSlL(K:vE):V->Option Int->Option Int->Hp->VK->Prop:=λx e f H Q=>∃a d,x=.ref a/\SqL K H a d/\∀p,H p=none->Q (.ref p) (upd H p (.lst (cutV d e f)))
def yie:SlR X (rSlL X.K):=by
 intro i s w H x v z A f g B Q I l m pl n h;obtain⟨a,d,rfl,p,q⟩:=h
 cases l;obtain⟨t,r,j,u⟩:=I.list p
 have e:=r.length;refine⟨"list",_,slot_list_getitem.lookup,j.isList.typeIs,?_⟩
 refine wpAny_getItem_list_slice j.isList m pl n .none vC ?_ (by rw[Zl]<;>omega);rw[zlf,<-e];refine⟨.ref s.heap.objs.size,_,I.laid (t':=s.toks) (o:=.lst (cutV d f g)) (λb C q=>Ze _ q) (Zk _) ?_,rfl,q _ (I.hok.fresh (Zk _))⟩
 exact⟨Wd (zqw d f g) u,_,0,(r.drop (HT.sIx d.length 0 f)).take (HT.sIx d.length d.length g-HT.sIx d.length 0 f),Zv _ rfl⟩
def zgp:zgi X (.builtin "len") (λj H Q=>∃p e,j=[.ref p]/\(SqL X.K H p e\/SqT X.K H p e)/\Q (.int e.length) H):=by
 intro l s o H j t Q I r h;obtain⟨p,e,rfl,f,q⟩:=h
 obtain⟨u,rfl,m⟩:=zia r
 cases m;have v:=zsh;rcases f with f|f
 ·obtain⟨g,i,pl,n⟩:=I.list f
  have d:=i.length;exact Calls.call_len_list pl.isList (by simp only[Zl]<;>omega) ⟨.int e.length,H,I.tok _,⟨s.toks+1,by rw[Zl,d]⟩,q⟩
 ·obtain⟨g,i,pl,n⟩:=I.tuple f
  have d:=i.length;exact len_tuple pl (by simp only[Zl]<;>omega) ⟨.int e.length,H,I.tok _,⟨s.toks+1,by rw[Zl,d]⟩,q⟩
def zgo:zgi X (.type "list") (λF H Q=>∃p g,F=[.ref p]/\(SqL X.K H p g\/SqT X.K H p g)/\∀l,H l=none->Q (.ref l) (upd H l (.lst g))):=by
 intro m s J H F M Q I r h;obtain⟨p,g,rfl,t,q⟩:=h
 obtain⟨u,rfl,L⟩:=zia r
 cases L;have v:∀(d:List Value),Vals g d->g.length<=sizeLine->∀(f:Heap) (i:Nat),(∀b G,s.heap.get? b=some G->f.get? b=some G) ->
   f.get? s.heap.objs.size=some {cls:=.type "list",dict:=none,data:=.seq d.toArray i,slots:=#[]}->EP X m J Q (.ref s.heap.objs.size) {s with heap:=f}:=λd j z f i A e=>
  ⟨.ref s.heap.objs.size,_,I.laid (t':=s.toks) A (Zk _) (show ObjOk X.prog X.w _ f _ (.lst g) from⟨z,d,i,j,e⟩),rfl,q _ (I.hok.fresh (Zk _))⟩
 rcases t with t|t
 ·obtain⟨d,j,pl,z⟩:=I.list t
  have B:=j.length;obtain⟨o,C,D,n,E⟩:=pl.isList
  exact call_list_seq p (.inl rfl) C D E (λf i A e=>v d j z f i A e) (by simp only[Zl]<;>omega)
 ·obtain⟨d,j,pl,z⟩:=I.tuple t
  have B:=j.length;obtain⟨o,C,D,n,E⟩:=pl
  exact call_list_seq p (.inr rfl) C D E (λf i A e=>v d j z f i A e) (by simp only[Zl]<;>omega)
def zmp:zgi X (.type "tuple") (λn H Q=>∃p g,n=[.ref p]/\((SqL X.K H p g/\∀l,H l=none->Q (.ref l) (upd H l (.tup g)))\/(SqT X.K H p g/\Q (.ref p) H))):=by
 intro d s t H n E Q I r h;obtain⟨p,g,rfl,h⟩:=h
 obtain⟨u,rfl,B⟩:=zia r
 cases B;rcases h with⟨j,q⟩|⟨j,q⟩
 ·obtain⟨f,m,pl,v⟩:=I.list j
  have z:=m.length;refine call_tuple_list pl.isList (λi C=>?_) (by simp only[Zl]<;>omega);have A:Inv X d t H {s with heap:=i}:=I.kept (t':=s.toks) C;have D:Inv X d t (upd H i.objs.size (.tup g)) {s with heap:=i.push {cls:=.type "tuple",data:=.seq f.toArray} }:=
   A.laid (t':=s.toks) (λb o e=>Ze _ e) (Zk _) (show ObjOk X.prog X.w _ _ _ (.tup g) from⟨v,f,m,IsTup.new _ _⟩)
  exact⟨.ref i.objs.size,_,D,rfl,q _ (A.hok.fresh (Zk _))⟩
 ·obtain⟨f,m,pl,v⟩:=I.tuple j
  exact call_tuple_same pl ⟨.ref p,H,I,rfl,q⟩
def tyV(K:vE)(T:String)(x:V)(H:Hp):Prop:=match x with
 |.str _=>T = "str"
 |.int _=>T = "int"
 |.ref p=>(T = "list" /\ ∃e,SqL K H p e)\/(T = "tuple" /\ ∃o,K.lookup p=some o/\o.cls=.type "tuple" /\ o.dict=none) \/
   (T = "dict" /\ ((∃d,H p=some (.dK d))\/∃d,H p=some (.dT d)))\/(T = "set" /\ ∃S n,H p=some (.set S n))
 |_=>False
def yfr{f:List (Addr×Obj)}{q:St}{H:Hp}{s:Shared}{T:String}{x:V}{v:Value}(I:Inv X f q H s)(r:RelV x v)(g:tyV X.K T x H):
  s.TypeIs v T/\∀a,v=.ref a->∃m,s.heap.get? a=some m/\m.dict=none:=by
 cases x with
 |str z=>
  obtain⟨t,rfl⟩:=r
  cases(show T = "str" from g)
  exact⟨typeIs_str s z t,λ_ e=>nomatch e⟩
 |int i=>
  obtain⟨t,rfl⟩:=r
  cases(show T = "int" from g)
  exact⟨typeIs_int s i t,λ_ e=>nomatch e⟩
 |ref p=>
  cases r;rcases g with⟨rfl,B,u⟩|⟨rfl,o,d,w,h⟩|⟨rfl,d⟩|⟨rfl,S,n,d⟩
  ·obtain⟨A,_,pl,_⟩:=I.list u
   refine⟨pl.isList.typeIs,λa e=>?_⟩
   cases e;obtain⟨o,n,e,c,h,_⟩:=pl
   exact⟨o,e,h⟩
  ·refine⟨⟨o,I.kIn p o d,w⟩,λa e=>?_⟩
   cases e;exact⟨o,I.kIn _ o d,h⟩
  ·have z:∃o,s.heap.get? p=some o/\o.ExactDict:=by
    rcases d with⟨j,d⟩|⟨j,d⟩
    ·obtain⟨_,_,_,_,o,_,_,e,ex,_⟩:=I.hok p _ d
     exact⟨o,e,ex⟩
    ·obtain⟨_,_,_,_,o,_,_,e,ex,_⟩:=I.hok p _ d
     exact⟨o,e,ex⟩
   obtain⟨o,e,ex⟩:=z
   refine⟨⟨o,e,ex.1⟩,λa l=>?_⟩
   cases l;exact⟨o,e,ex.2.1⟩
  ·obtain⟨o,_,_,_,e,ex,_⟩:=I.hok p _ d
   refine⟨⟨o,e,ex.1⟩,λa l=>?_⟩
   cases l;exact⟨o,e,ex.2.1⟩
 |_=>exact False.elim g
def tBM0(K:vE)(T:String)(r:V->List V->Hp->VK->Prop)(e:TE):TE:=λf H Q=>e f H λx d=>tyV K T x d/\r x [] d Q
def tBM(K:vE)(T:String)(r:V->List V->Hp->VK->Prop)(f:TE)(t:TA):TE:=λd H Q=>f d H λx e=>tyV K T x e/\t d e λg h=>r x g h Q
variable{o e:Expr}{es:List Expr}{to:TE}{t:TA}{name:Str}{apos cpos:Pos}{T id:String}{r:V->List V->Hp->VK->Prop}
def ygd(m:PlainAttrs T)(slot:Slot T name id)(g:typeOf (.builtin id)=pure (.type "method_descriptor"))(n:MtR X id r)(p:PE X o to)
 (e:attributeBase o name X.env (eval o X.env)=eval o X.env:=by rfl)(f:(apos.endLine == cpos.line)=true:=by rfl):PE X (.Call (.Attribute o name apos) [] [] cpos) (tBM0 X.K T r to):=by
 intro d s i H Q I h;refine wpAny_Call_method0_late e f (thn (p d s i H _ I h) λv q ⟨x,t,j,l,ty,u⟩=>?_);obtain⟨w,z⟩:=yfr j l ty
 exact⟨T,id,m,slot,g,w,z,Vq rfl (PySem.evalArgs_none (n d q i t x [] v [] Q j l .nil u))⟩
def ycl(u:PlainAttrs T)(slot:Slot T name id)(l:typeOf (.builtin id)=pure (.type "method_descriptor"))(w:MtR X id r)(z:PE X o to)(A:PA X (e::es) t)
 (g:attributeBase o name X.env (eval o X.env)=eval o X.env:=by rfl)
 (j:((backTo cpos (starEach (e::es) X.env)).all (λx=>!x.1) && (backToKw cpos (keywordEach [] X.env)).all (λx=>x.1.isSome)
   && decide ((e::es).length+([]:List Keyword).length+(if ([]:List Keyword).isEmpty then 0 else 1)<30))=true:=by rfl)
 (i:(apos.endLine == cpos.line)=true:=by rfl)(B:starEach (e::es) X.env=(false,eval e X.env)::starEach es X.env:=by rfl)(f:(backTo cpos (starEach es X.env)).any (·.1)=false:=by rfl):
  PE X (.Call (.Attribute o name apos) (e::es) [] cpos) (tBM X.K T r to t):=by
 intro d s m H Q I h;refine wpAny_Call_method_late g j i rfl (thn (z d s m H _ I h) λv C ⟨x,D,n,p,ty,E⟩=>?_);obtain⟨F,G⟩:=yfr n p ty
 refine⟨T,id,u,slot,l,F,G,?_⟩
 have q:=A cpos d C m D _ n E;rw[B] at q |-;refine Vq (by show(false || (backTo cpos (starEach es X.env)).any (·.1))=false;rw[f]<;>rfl) (Calls.evalArgs_plain ?_);exact thn q λJ L ⟨M,N,O,P,R⟩=>w d L m N x M v J Q O p P R
end
end L2
namespace L2
open PySem PySem.Spec PyProof.Rows
def MtM(X:Cx)(id:String)(r:V->List V->Hp->VK->Prop):Prop:=
 ∀(d:List (Addr×Obj)) (s:Shared) (e:St) (H:Hp) (x:V) (f:List V) (v:Value) (g:List Value) (Q:VK),Inv X d e H s->RelV x v->Vals f g->r x f H Q ->
  wpAny (model X.prog X.w) X.A (call (.builtin id) (v::g)) (EP X d e Q) X.xe s
def Vals.one:∀{x:V}{d:List Value},Vals [x] d->∃u,d=[u]/\RelV x u:=λh=>by
 cases h with
 |cons r t=>cases t;exact⟨_,rfl,r⟩
theorem Vals.zero:∀{d:List Value},Vals [] d->d=[]
 |_,.nil=>rfl
theorem Vals.dropLast{d:List V}{e:List Value}(h:Vals d e):Vals d.dropLast e.dropLast:=by
 induction h with
 |nil=>exact .nil
 |cons r t f=>
  cases t with
  |nil=>exact .nil
  |cons q g=>exact .cons r f
theorem Vals.eraseIdx:∀{d:List V}{e:List Value}(i:Nat),Vals d e->Vals (d.eraseIdx i) (e.eraseIdx i)
 |_,_,_,.nil=>.nil
 |_,_,0,.cons _ t=>t
 |_,_,i+1,.cons r t=>.cons r (Vals.eraseIdx i t)
def zux{d:Type}(l:List d):l.eraseIdx (l.length-1)=l.dropLast:=by
 induction l with
 |nil=>rfl
 |cons a r f=>
  cases r with
  |nil=>rfl
  |cons b r=>
   have e:(a::b::r).length-1=((b::r).length-1)+1:=by
    have g:(a::b::r).length=r.length+2:=rfl;have h:(b::r).length=r.length+1:=rfl;omega
   rw[e,List.eraseIdx_cons_succ,f]
   all_goals rfl
theorem zon{d:Type}:∀(l:List d) (i:Nat),(l.eraseIdx i).length<=l.length
 |[],_=>Zk _
 |_::_,0=>Jg _
 |_::r,i+1=>Nat.succ_le_succ (zon r i)
section
variable{X:Cx}{pins:List (Addr×Obj)}{σ:St}{H:Hp}{s:Shared}{l b:Addr}{xs ys zs:List V}
def Inv.lset{d its':List Value}{n:Nat}{f:Array Value->Array Value}{g:Nat}(I:Inv X pins σ H s)(h:H l=some (.lst xs))
 (e:s.heap.get? l=some {cls:=.type "list",data:=.seq d.toArray n})(i:f d.toArray=its'.toArray)(j:Vals ys its')(m:ys.length<=sizeLine):
  Inv X pins σ (upd H l (.lst ys)) {s with heap:=s.heap.update l (Obj.mapSeq f),toks:=g}:=by
 have q:=PySem.IsL.update e f;rw[i] at q;refine I.write (x:=l) (e:=l) (by rw[h];exact trivial) (.inl rfl) (λr u o p=>(Yn s.heap (Obj.mapSeq f) (Wn o)).trans p) ⟨_,q⟩ ?_;exact⟨m,its',_,j,q⟩
def Inv.lnew{its:List Value}{t':Nat}(I:Inv X pins σ H s)(d:Vals ys its)(e:ys.length<=sizeLine):
  Inv X pins σ (upd H s.heap.objs.size (.lst ys)) {s with heap:=s.heap.push {cls:=.type "list",data:=.seq its.toArray},toks:=t'}:=
 I.laid (λ_ _ q=>Ze _ q) (Zk _) ⟨e,its,0,d,Zv _ rfl⟩
theorem Inv.fresh(I:Inv X pins σ H s):H s.heap.objs.size=none:=I.hok.fresh (Zk _)
def Inv.lstM(I:Inv X pins σ H s)(f:H l=some (.lst xs)):xs.length<=sizeLine/\∃(d:List Value) (n:Nat),Vals xs d/\xs.length=d.length/\s.heap.get? l=some {cls:=.type "list",data:=.seq d.toArray n}:=by
 obtain⟨z,d,n,r,e⟩:=I.hok l _ f
 exact⟨z,d,n,r,r.length,e⟩
end
section
variable{X:Cx}
def zwx:V->List V->Hp->VK->Prop:=λx e H Q=>∃l d y,x=.ref l/\e=[y]/\H l=some (.lst d)/\d.length<sizeLine/\Q .non (upd H l (.lst (d++[y])))
def ziw:MtM X "list.append" zwx:=by
 intro f s o H x p v t Q I i j h;obtain⟨l,w,y,rfl,rfl,g,A,q⟩:=h
 cases i;obtain⟨u,rfl,m⟩:=j.one
 obtain⟨z,d,n,r,B,e⟩:=I.lstM g
 refine U4 F.slot_list_append ⟨_,e,rfl⟩ F.entry_list_append (F.args_list_append_2 _ _) (PySem.list_append l d.toArray n u (by rw[Zl];omega)) ⟨e,?_⟩;refine⟨.non,_,I.lset (its':=d++[u]) g e vC (r.append #v[m]) ?_,rfl,q⟩
 rw[Z7,Vu];omega
def rPop:V->List V->Hp->VK->Prop:=λx e H Q=>∃l d y,x=.ref l/\e=[]/\H l=some (.lst d)/\d[d.length-1]? = some y/\Q y (upd H l (.lst d.dropLast))
def mt_pop:MtM X "list.pop" rPop:=by
 intro i s B H x C v D Q I m o h;obtain⟨l,E,y,rfl,rfl,j,p,q⟩:=h
 cases m;have f:=o.zero;subst f;obtain⟨z,d,n,r,t,e⟩:=I.lstM j
 obtain⟨u,w,A⟩:=r.get p
 have g:d.toArray[d.toArray.size-1]? = some u:=by
  show d.toArray[d.length-1]? = some u;rw[<-Vr,<-t];exact w
 refine U4 Vl ⟨_,e,rfl⟩ F.entry_list_pop (F.args_list_pop_1 _) (MeetsSeq.list_pop_last l d.toArray n u g (by rw[Zl];omega)) ⟨e,?_⟩;refine⟨y,_,I.lset (its':=d.dropLast) j e ?_ r.dropLast ?_,A,q⟩
 ·show d.toArray.eraseIdxIfInBounds (d.toArray.size-1)=d.dropLast.toArray;rw[Zl,Uo,zux]
 ·rw[List.length_dropLast];omega
def rPopAt:V->List V->Hp->VK->Prop:=λx e H Q=>∃l d i k y,x=.ref l/\e=[.int i]/\H l=some (.lst d) /\ -(2^63)<=i/\i<2^63/\seqIndex? i d.length=some k/\d[k]? = some y/\Q y (upd H l (.lst (d.eraseIdx k)))
def ycu:MtM X "list.pop" rPopAt:=by
 intro g s K H x L v M Q I m o h;obtain⟨l,p,i,k,y,rfl,rfl,j,A,B,C,D,q⟩:=h
 cases m;obtain⟨u,rfl,E⟩:=o.one
 obtain⟨t,rfl⟩:=E
 obtain⟨z,d,n,r,G,e⟩:=I.lstM j
 obtain⟨w,J,f⟩:=r.get D
 refine U4 Vl ⟨_,e,rfl⟩ F.entry_list_pop (F.args_list_pop_2 _ _)
  (MeetsSeq.list_pop_at l d.toArray n i t k w (fitsIndex_both A B) (by rw[Zl,<-G];exact C) (by rw[<-Vr];exact J) (by rw[Zl];omega)) ⟨e,?_⟩
 refine⟨y,_,I.lset (its':=d.eraseIdx k) j e ?_ (r.eraseIdx k) ?_,f,q⟩
 ·show d.toArray.eraseIdxIfInBounds k=(d.eraseIdx k).toArray;rw[Uo]
 ·have:=zon p k
  omega
def rClear:V->List V->Hp->VK->Prop:=λx d H Q=>∃l e,x=.ref l/\d=[]/\H l=some (.lst e)/\Q .non (upd H l (.lst []))
def ycw:MtM X "list.clear" rClear:=by
 intro g s o H x p v t Q I j m h;obtain⟨l,u,rfl,rfl,i,q⟩:=h
 cases j;have d:=m.zero;subst d;obtain⟨z,f,n,r,w,e⟩:=I.lstM i
 refine U4 F.slot_list_clear ⟨_,e,rfl⟩ F.entry_list_clear (F.args_list_clear_1 _) (AutoSeq1.list_clear_list_0 l f.toArray n (by rw[Zl];omega)) ⟨e,?_⟩;exact⟨.non,_,I.lset (its':=[]) (ys:=[]) i e rfl .nil (Yz _),rfl,q⟩
end
section
variable{prog:Program}{w:World}{A:Around}{E:Value->Shared->Prop}{s:Shared}
end
section
variable{X:Cx}
end
end L2
namespace Att
open PySem PySem.W PySem.Calls PyProof.Rows
def zjg{P:Params}{h:Heap}:∀(d:List Int) (e:List Value),WellAll P h e (d.map WData.int)->IntsAre e d:=by
 intro d;induction d with
 |nil=>
  intro e w;rw[Wy] at w;cases w;exact .nil
 |cons n d f=>
  intro e w;rw[Zz] at w;cases w with
  |cons a b=>
   cases a;exact .cons _ _ (f _ b)
def zwp{l:OpenLaw}{n:Nat}(v:l.most=some n){P:Params}{h:Heap}{args:List WData}{f:List Value}
 (g:l.row.toRowW.claim.pre args=true)(p:WellAll P h f args):
  ∃a t e,f=[Value.ref a]/\args=[WData.list (e.map WData.int)]/\h.get? a=some {cls:=.type "list",data:=.seq t.toArray}/\IntsAre t e/\e.length<=n:=by
 have s:WShape.hasAll [] args [.list .int]=true:=(pre_splitW g).1;have u:l.pre.holds [] {args:=args}=true:=(pre_splitW g).2;obtain⟨d,r,rfl,w,z⟩:=hasAllW_cons s
 obtain rfl:=hasAllW_nil z;obtain⟨F,rfl,A⟩:=hasW_list w
 obtain⟨e,rfl⟩:=items_int A
 have i:e.length<=n:=by
  unfold OpenLaw.pre at u;have m:(WTm.not (.lt (.lit (.int (n:Int))) (.len (.arg 0)))).holds [] {args:=[.list (e.map .int)]}=true:=by
   have m:=(holds_andW u).1;rw[v] at m;exact m
  have o:=condW_of m (w_not (w_lt w_lit (w_len_list (w_arg rfl))));rw[Zd] at o;refine Nat.le_of_not_lt λq=>?_;have B:(n:Int)<((e.length:Nat):Int):=by omega
  first
   |(rw[decide_eq_true B] at o;exact absurd o vA)
   |(simp at o;omega)
 cases p with
 |cons C D=>
  cases D;cases C with
  |list E j=>exact⟨_,_,e,rfl,rfl,E,zjg e _ j,i⟩
def zxc(l:OpenLaw)(args:List WData):l.row.toRowW.claim.post args (.bool true) args=true:=
 postW_of (r:=l.row.toRowW) (X:=(true == true))
  (show WShape.has [] (.bool true) .bool=true by first|rfl|decide|simp[WShape.has,WShape.arms,WShape.armsAll])
  (show(WTm.eq .res (.lit (.bool true))).value [] {args:=args,res:=some (.bool true),after:=args}=some (.bool (true == true)) from w_eq_bool (w_res rfl) w_lit) rfl
def attach_call{l:OpenLaw}{n:Nat}{q:Program}{g:List Str}{H:(Str->Option Value)->Heap->Prop}{I:World->Heap->Prop}{d:DefRec}
 (L:l.most=some n)(A:d.params.defaults=[])
 (j:∀(w:World) (s₀ e:Shared) (t B:Str->Option Value) (m:Addr) (o:Obj) (C u h:Value) (a:Addr) (i:List Value) (v:List Int),
   Ground q g [] H w s₀ t B e.heap->I w e.heap ->
   e.heap.get? m=some o->o.data=.func (docDef d.name d.params d.body d.scope C u h)->e.heap.CodeRec u d.name->t d.name=some (.ref m) ->
   e.heap.get? a=some {cls:=.type "list",data:=.seq i.toArray}->IntsAre i v->v.length<=n->e.gens = #[] ->
   codeAny (model l.prog w) callerA (.call (.ref m) ⟨[.ref a],[]⟩) (λr z=>r=.ok (.ret (.bool true))/\OldK e.heap z.heap/\z.os=e.os/\AllBare z.gens) e):
  WalkO q g H I l.row.toRowW d [] (λf i=>PySem.call f i):=by
 intro w s₀ e t B G Y m o C u h M kV N O D hD E P args J X p K Q F R;obtain rfl:M=.none:=Dflts.none hD A;obtain rfl:kV=.none:=Dflts.noKw hD;obtain⟨a,i,v,rfl,rfl,s,hints,hlen⟩:=zwp L p F
 refine enter_call (Vd (j w s₀ e t B m o C u h a i v G Y N (fd_plain O) D E s hints hlen P) λr z S=>?_);obtain⟨rfl,T,U,V⟩:=S
 exact⟨.inl ⟨.bool true,.bool true,[],rfl,λ_=>rfl,.bool true,zxc l _,λ_=>⟨List.Pairwise.nil,λ_ W=>(nomatch W)⟩⟩,T,U,V⟩
section
variable{prog:Program}{w:World}{A:Around}{E:Value->Shared->Prop}{s:Shared}{K:Frag}
end
end Att
namespace L2
open PySem PySem.Spec PyProof.Rows
theorem znb:∀{d:List Value}{e:List Int},IntsAre d e->Vals (e.map V.int) d
 |_,_,.nil=>.nil
 |_,_,.cons n t h=>.cons ⟨t,rfl⟩ (znb h)
def Only(H:Hp):Prop:=∀b,H b=none\/∃o d,H b=some (.frz o (.lst d))
def ydl{P:Program}{w:World}{K:vE}{C S:Str->Option Value}{CX:CXT}{k:Nat}{T a:Addr}{fd:FuncData}{x:Str}{sp:Sp}{f:Shared}{A:List Value}{D:List Int}
 (KX:K.In f.heap)(E:f.heap.Ns mainGlobals C)(i:f.heap.Ns builtinsNs S)(U:∀x:Str,x ≠ "__name__" -> S x=bootBuiltins x)(G:f.heap.NoLimit)(hg:f.gens = #[])
 (R:f.heap.get? a=some {cls:=.type "list",data:=.seq A.toArray})(hi:IntsAre A D)(hl:D.length<=sizeLine)(hr:Room k callerA)
 (F:∀j:Heap,K.In j->j.Ns mainGlobals C->FnOk P w K C j CX k T fd [x] sp)(B:∀(s:Shared) (u:Value),BindsTo s fd ⟨[u],[]⟩ [(x,u)])
 (X:∀H:Hp,Only H->SqL K H a (D.map V.int)->sp [.ref a] H (λv _=>v=.bl true) λ_ _ _=>False)
 (Y:∀H e l,CX [] H f (λ_ _ _=>False) e l->False):
  codeAny (model P w) callerA (.call (.ref T) ⟨[.ref a],[]⟩) (λr l=>r=.ok (.ret (.bool true))/\OldK f.heap l.heap/\l.os=f.os/\AllBare l.gens) f:=by
 have rv:=znb hi;have I:=hi.length;have t:∀H:Hp,Only H->SqL K H a (D.map V.int)->HOk P w H f.heap->(∀b,H b≠none->b=a)->(H a≠none->K.lookup a=none) ->
   codeAny (model P w) callerA (.call (.ref T) ⟨[.ref a],[]⟩) (λr l=>r=.ok (.ret (.bool true))/\OldK f.heap l.heap/\l.os=f.os/\AllBare l.gens) f:=by
  intro H hO hS J hA hK;have g:∀{b:Addr}{o:Obj},f.heap.get? b=some o->H b=none->(hidT f.heap H).get? b=some o:=λe n=>ydq e n
  have Z:∀{b:Addr}{o:Obj}{L:Array DictEntry}{M:Nat},f.heap.get? b=some o->o.data=.dict L M->H b=none:=λ{b o L M} e d=>by
   cases q:H b with
   |none=>rfl
   |some u=>
    have e':b=a:=hA b (by rw[q];simp);subst e';rw[R] at e;cases e;have d':Data.seq A.toArray _=Data.dict L M:=d;cases d'
  have p:∀{b:Addr}{m:Str->Option Value},f.heap.Ns b m->(hidT f.heap H).Ns b m:=λ{b m} ⟨o,L,M,e,d,r⟩=>⟨o,L,M,g e (Z e d),d,r⟩
  have N:K.In (hidT f.heap H):=λb o e=>g (KX b o e) (by
   cases q:H b with
   |none=>rfl
   |some u=>
    have e':b=a:=hA b (by rw[q];simp);subst e';rw[hK (by rw[q];simp)] at e;cases e)
  have hM:Mod K C (hidT f.heap H):=⟨N,p E,⟨S,p i,U⟩,let ⟨mc,h1,h2⟩:=G;⟨mc,p h1,h2⟩⟩;have e0:Env0 P w K C (hidT f.heap H) callerA [] f H:=⟨rfl,hM,λb o e=>yjy e,V4 (zym _ _),trivial,λb i=>absurd (show b∈([]:List Addr) from i) vC,J,.of_eq hg⟩;refine Vd ((F _ N (p E)).run callerA [] f H ⟨[.ref a],[]⟩ [.ref a] [.ref a] _ _ hr e0 (B f (.ref a)) #v[rfl] (X H hO hS)) λr l h=>?_;cases r with
  |error e=>exact(Y H e l h).elim
  |ok fl=>
   cases fl with
   |next=>exact False.elim h
   |brk=>exact False.elim h
   |cont=>exact False.elim h
   |ret u=>
    obtain⟨v,H',os,bare,un,O,r',q⟩:=h
    have q':v=.bl true:=q;subst q';obtain rfl:u=Value.bool true:=r';refine⟨rfl,OldK.of_keep λb o e=>?_,os,bare⟩
    cases q:H b with
    |none=>exact un.keep b o e q (by intro z;exact absurd (show b∈([]:List Addr) from z) vC) vC
    |some u=>
     rcases hO b with z|⟨ob,xs,z⟩
     ·rw[q] at z;cases z
     ·have z2:=un.frzs b ob _ z;obtain⟨e1,_⟩:=J b _ z
      obtain⟨e2,_⟩:=O b _ z2
      rw[e] at e1;cases e1;exact e2
 cases hk:K.lookup a with
 |some o=>
  have e:=KX a o hk;rw[R] at e;cases e;refine t (λ_=>none) (λ_=>.inl rfl) (.inr ⟨_,A.toArray,_,hk,rfl,rfl,rfl,by rw[Zl,I];exact hl,by simpa using rv⟩) (λb u z=>by have Q:(none:Option HO)=some u:=z;cases Q) (λb z=>absurd rfl z) λz=>absurd rfl z
 |none=>
  refine t (λb=>if b=a then some (.frz {cls:=.type "list",data:=.seq A.toArray} (.lst (D.map V.int))) else none) (λb=>?_) (.inl (.inr ⟨{cls:=.type "list",data:=.seq A.toArray},if_pos rfl⟩)) (λb u z=>?_) (λb z=>?_) λ_=>hk
  ·by_cases i:b=a
   ·exact .inr ⟨_,_,if_pos i⟩
   ·exact .inl (if_neg i)
  ·by_cases i:b=a
   ·have Q:=(if_pos i).symm.trans z;cases Q;subst i;exact⟨R,by rw[Zd];exact hl,A,_,rv,R⟩
   ·have Q:=(if_neg i).symm.trans z;cases Q
  ·by_cases i:b=a
   ·exact i
   ·exact absurd (if_neg i) z
end L2
namespace L2
open PySem PySem.Spec PyProof.Rows
def walk_of{l:PySem.W.OpenLaw}{n k:Nat}{q:Program}{m:List Str}{R:(Str->Option Value)->Heap->Prop}{N:World->Heap->Prop}{d:DefRec}{K:Params->vE}{CX:World->CXT}{sp:World->Sp}{x:Str}
 (S:l.most=some n)(C:n<=sizeLine)(D:d.params.defaults=[])(U:Room k callerA)
 (X:∀(w:World) (h:Heap),N w h->(K w.params).In h)
 (F:∀(w:World) (r:Str->Option Value) (A:Addr) (h:Heap),(K w.params).In h->h.Ns mainGlobals r->r d.name=some (.ref A) ->
   ∃E:FuncData,(∀(s:Shared) (u:Value),BindsTo s E ⟨[u],[]⟩ [(x,u)]) /\
    ∀i:Heap,(K w.params).In i->i.Ns mainGlobals r->FnOk l.prog w (K w.params) r i (CX w) k A E [x] (sp w))
 (I:∀(w:World) (H:Hp) (a:Addr) (B:List Int),B.length<=n->Only H->SqL (K w.params) H a (B.map V.int)->sp w [.ref a] H (λv _=>v=.bl true) λ_ _ _=>False)
 (J:∀(w:World) (H:Hp) (s:Shared) (e:Value) (L:Shared),CX w [] H s (λ_ _ _=>False) e L->False):
  PySem.W.WalkO q m R N l.row.toRowW d [] (λf O=>PySem.call f O):=by
 refine Att.attach_call S D λw P t r mb A o pm cd Z a O B G Y ho hd a0 M z p j hg=>?_;have Q:=X w _ Y;obtain⟨E,hb,hF⟩:=F w r A _ Q G.T.g M
 exact ydl Q G.T.g G.T.b G.T.builtins G.T.nolimit hg z p (Wd j C) U hF hb (λH hO hS=>I w H a B j hO hS) λH e L=>J w H t e L
end L2
namespace L2
open PySem PySem.Spec PyProof.Rows
def zgc(s:Stmt)(j:Nat):Stmt:=match s with
 |.ClassDef _ _ _ body _ _ _ _ _ _ _=>body.getD j (.Pass ⟨0,0,0,0⟩)
 |_=>.Pass ⟨0,0,0,0⟩
def zbg(s:Stmt):Arguments:=match s with
 |.FunctionDef _ a _ _ _ _ _ _ _ _=>a
 |_=>{posonlyargs:=[],args:=[],vararg:=none,kwonlyargs:=[],kw_defaults:=[],kwarg:=none,defaults:=[]}
def Bg(s:Stmt):List Stmt:=match s with
 |.FunctionDef _ _ b _ _ _ _ _ _ _=>b
 |_=>[]
def Bd(s:Stmt):Scope:=match s with
 |.FunctionDef _ _ _ _ _ _ sc _ _ _=>sc
 |_=>{kind:=.function,names:=[],isGenerator:=false,isCoroutine:=false}
abbrev CX0:CXT:=λ_ _ _ _ _ _=>False
abbrev E0:XK:=λ_ _ _=>False
def ycm{X:Cx}:zph CX0 X E0:=λ_ _ _ _ _ _ _ h=>h.elim
structure Fun(K:vE)(x qual:Str)(st:Stmt)(f:Addr)(fd:FuncData):Prop where
 ex:∃(oc:Value) (od:Option Addr) (kV doc pm:Value) (an:Option Addr) (cdv ct:Value) (osl:Array (Option Value)),
  fd=PySem.W.fnOf x qual (zbg st) (Bg st) (Bd st) .none kV doc pm an cdv ct/\K.lookup f=some ⟨oc,od,.func fd,osl⟩/\PySem.W.codeIn K cdv qual=true
 kp:PySem.W.keepIn K (.ref f)=true
section
variable{P:Program}{w:World}{K:vE}{mg:Str->Option Value}{base:Heap}
def Fun.ok{x qual:Str}{st:Stmt}{f:Addr}{fd:FuncData}{N g:List Str}{k:Nat}{i:Sp}(F:Fun K x qual st f fd)(S:FnScope N g (Bd st))(len:∀d H Q E,i d H Q E->d.length=g.length)
 (e:∀(cdv:Value) (A:Around) (outer:List Env) (s:Shared) (H:Hp) (d:List V) (Q:VK) (E:XK),Room k (A.deeper (envOfC qual (Bd st) s.heap.objs.size f cdv))->i d H Q E ->
   ∃t,PSs (cxOf CX0 P w K mg base N qual (Bd st) f cdv A outer s H E).nox (Bg st) t/\t {nx:=λ_ m=>Q .non m,rt:=Q} (start N d) H):FnOk P w K mg base CX0 (k+1) f fd g i:=by
 obtain⟨oc,od,kV,doc,pm,an,cdv,ct,osl,rfl,lk,j⟩:=F.ex
 refine fn_of lk j S len λA outer s H d Q E n l=>?_;obtain⟨t,h,q⟩:=e cdv A outer s H d Q E n l
 exact⟨t,h.nox,q⟩
def Fun.binds{x qual:Str}{st:Stmt}{f:Addr}{fd:FuncData}{d:List Str}(F:Fun K x qual st f fd)
 (h:∀(kV doc pm:Value) (an:Option Addr) (cdv ct:Value) (e:List Value),e.length=d.length->bindArgs (PySem.W.fnOf x qual (zbg st) (Bg st) (Bd st) .none kV doc pm an cdv ct) ⟨e,[]⟩=pure (d.zip e)):Binds K fd d []:=by
 obtain⟨oc,od,kV,doc,pm,an,cdv,ct,osl,rfl,lk,g⟩:=F.ex
 exact .all (h kV doc pm an cdv ct)
def zso{x d:Str}{st:Stmt}{f:Addr}{m:Value}{n i:Option Addr}{h:Array (Option Value)}{kV g j e ct:Value}(l:K.lookup f=some ⟨m,n,.func (PySem.W.fnOf x d (zbg st) (Bg st) (Bd st) .none kV g j i e ct),h⟩)
 (c:PySem.W.codeIn K e d=true)(k:PySem.W.keepIn K (.ref f)=true):Fun K x d st f (PySem.W.fnOf x d (zbg st) (Bg st) (Bd st) .none kV g j i e ct):=⟨⟨m,n,kV,g,j,i,e,ct,h,rfl,l,c⟩,k⟩
end
def zwk{n:Nat}(h:n<=1000):n<sizeLine:=Yw h vA
section
variable{X:Cx}
end
def iteF{A B:Prop}(h:B):if false=true then A else B:=by
 rw[if_neg Zr];exact h
def iteT{A B:Prop}(h:A):if true=true then A else B:=by
 rw[if_pos rfl];exact h
def Same(H d:Hp):Prop:=∀b o,H b=some o->d b=some o
def Same.refl(H:Hp):Same H H:=λ_ _ h=>h
def Same.trans{H d e:Hp}(a:Same H d)(b:Same d e):Same H e:=λc o h=>b c o (a c o h)
def Same.free{H d:Hp}(e:Same H d){l:Addr}(h:d l=Option.none):H l=Option.none:=by
 cases q:H l with
 |none=>rfl
 |some o=>
  rw[e l o q] at h;cases h
def Same.seq{K:vE}{H d:Hp}{a:Addr}{f:List V}(e:Same H d)(h:SqL K H a f):SqL K d a f:=by
 rcases h with(h|⟨o,h⟩)|h
 ·exact .inl (.inl (e _ _ h))
 ·exact .inl (.inr ⟨o,e _ _ h⟩)
 ·exact .inr h
end L2
namespace DL
open PySem L2
inductive D where
 |non|bl (b:Bool)|int (i:Int)|tup (l:List D)|lst (l:List D)|exc (x:Str)|obj (a:Addr) (l:List D)
def flds:List Str:=["place","side","least","closing"]
def ExcO(a C:Addr):HO:=.ext λh=>∃o d,h.get? a=some o/\o.cls=.ref C/\o.data=.fields d
mutual
def Den(K:vE)(F:Hp):D->V->Prop
 |.non,v=>v=.non
 |.bl b,v=>v=.bl b
 |.int i,v=>v=.int i
 |.tup l,v=>∃a d,v=.ref a/\SqT K F a d/\DenL K F l d
 |.lst l,v=>∃a d,v=.ref a/\SqL K F a d/\DenL K F l d
 |.exc x,v=>∃a C,v=.ref a/\PySem.W.nsIn K mainGlobals x=some (some (.ref C))/\F a=some (ExcO a C)
 |.obj a l,v=>v=.ref a/\∃C g e d,PySem.W.nsIn K mainGlobals "Bound" = some (some (.ref C))/\F a=some (.ins C g e)/\(flds.map λf=>e.lookup f)=d.map some/\DenL K F l d
def DenL(K:vE)(F:Hp):List D->List V->Prop
 |[],e=>e=[]
 |d::l,e=>∃v f,e=v::f/\Den K F d v/\DenL K F l f
end
def Same.tup{K:vE}{H d:Hp}{a:Addr}{f:List V}(e:Same H d)(h:SqT K H a f):SqT K d a f:=by
 rcases h with(h|⟨o,h⟩)|h
 ·exact .inl (.inl (e _ _ h))
 ·exact .inl (.inr ⟨o,e _ _ h⟩)
 ·exact .inr h
mutual
theorem Den.mono{K:vE}{F g:Hp}(s:Same F g):∀(d:D){v:V},Den K F d v->Den K g d v
 |.non,_,h=>by simpa only[Den] using h
 |.bl _,_,h=>by simpa only[Den] using h
 |.int _,_,h=>by simpa only[Den] using h
 |.tup l,_,h=>by
  simp only[Den] at h |-;obtain⟨a,f,e,q,r⟩:=h
  exact⟨a,f,e,Same.tup s q,DenL.mono s l r⟩
 |.lst l,_,h=>by
  simp only[Den] at h |-;obtain⟨a,f,e,q,r⟩:=h
  exact⟨a,f,e,s.seq q,DenL.mono s l r⟩
 |.exc _,_,h=>by
  simp only[Den] at h |-;obtain⟨a,C,e,q,r⟩:=h
  exact⟨a,C,e,q,s _ _ r⟩
 |.obj _ l,_,h=>by
  simp only[Den] at h |-;obtain⟨e,C,i,j,f,c,q,k,r⟩:=h
  exact⟨e,C,i,j,f,c,s _ _ q,k,DenL.mono s l r⟩
theorem DenL.mono{K:vE}{F f:Hp}(s:Same F f):∀(l:List D){g:List V},DenL K F l g->DenL K f l g
 |[],_,h=>by simpa only[DenL] using h
 |d::l,_,h=>by
  simp only[DenL] at h |-;obtain⟨v,i,e,q,r⟩:=h
  exact⟨v,i,e,Den.mono s d q,DenL.mono s l r⟩
end
section
variable{K:vE}{F F':Hp}
def DenL.nil:DenL K F [] []:=by simp only[DenL]
def DenL.cons{d:D}{l:List D}{v:V}{e:List V}(h:Den K F d v)(r:DenL K F l e):DenL K F (d::l) (v::e):=by
 simp only[DenL];exact⟨v,e,rfl,h,r⟩
def DenL.inv_nil{d:List V}(h:DenL K F [] d):d=[]:=by simpa only[DenL] using h
def DenL.inv_cons{d:D}{l:List D}{e:List V}(h:DenL K F (d::l) e):∃v f,e=v::f/\Den K F d v/\DenL K F l f:=by simpa only[DenL] using h
theorem DenL.length:∀{l:List D}{f:List V},DenL K F l f->f.length=l.length
 |[],_,h=>by rw[h.inv_nil];rfl
 |d::l,_,h=>by
  obtain⟨v,g,e,_,r⟩:=h.inv_cons
  subst e;rw[Zq,Zq,r.length]
theorem DenL.get:∀{l:List D}{f:List V}{i:Nat}{d:D},DenL K F l f->l[i]? = some d->∃v,f[i]? = some v/\Den K F d v
 |[],_,_,_,_,e=>by simp at e
 |d::l,_,0,g,h,e=>by
  obtain⟨v,j,z,q,r⟩:=h.inv_cons
  subst z;simp at e;subst e
  exact⟨v,by simp,q⟩
 |d::l,_,i+1,g,h,e=>by
  obtain⟨v,j,z,q,r⟩:=h.inv_cons
  subst z;obtain⟨u,m,n⟩:=DenL.get (i:=i) (d:=g) r (by simpa using e)
  exact⟨u,by simpa using m,n⟩
theorem DenL.append:∀{l m:List D}{f e:List V},DenL K F l f->DenL K F m e->DenL K F (l++m) (f++e)
 |[],_,_,_,h,q=>by rw[h.inv_nil];simpa using q
 |d::l,m,_,e,h,q=>by
  obtain⟨v,g,z,p,r⟩:=h.inv_cons
  subst z;exact DenL.cons p (DenL.append r q)
theorem DenL.take:∀{l:List D}{e:List V}(n:Nat),DenL K F l e->DenL K F (l.take n) (e.take n)
 |[],_,n,h=>by rw[h.inv_nil];simpa using DenL.nil
 |_::_,_,0,_=>by simpa using DenL.nil
 |d::l,_,n+1,h=>by
  obtain⟨v,f,z,p,r⟩:=h.inv_cons
  subst z;exact DenL.cons p (DenL.take n r)
theorem DenL.drop:∀{l:List D}{e:List V}(n:Nat),DenL K F l e->DenL K F (l.drop n) (e.drop n)
 |[],_,n,h=>by rw[h.inv_nil];simpa using DenL.nil
 |_::_,_,0,h=>by simpa using h
 |d::l,_,n+1,h=>by
  obtain⟨v,f,z,p,r⟩:=h.inv_cons
  subst z;simpa using DenL.drop n r
theorem DenL.ints:∀(d:List Int),DenL K F (d.map D.int) (d.map V.int)
 |[]=>DenL.nil
 |n::d=>DenL.cons (by simp only[Den]) (DenL.ints d)
theorem Den.int{i:Int}{v:V}(h:Den K F (.int i) v):v=.int i:=by simpa only[Den] using h
theorem Den.bl{b:Bool}{v:V}(h:Den K F (.bl b) v):v=.bl b:=by simpa only[Den] using h
theorem Den.non{v:V}(h:Den K F .non v):v=.non:=by simpa only[Den] using h
theorem Den.tup{l:List D}{v:V}(h:Den K F (.tup l) v):∃a d,v=.ref a/\SqT K F a d/\DenL K F l d:=by simpa only[Den] using h
theorem Den.lst{l:List D}{v:V}(h:Den K F (.lst l) v):∃a d,v=.ref a/\SqL K F a d/\DenL K F l d:=by simpa only[Den] using h
theorem Den.exc{x:Str}{v:V}(h:Den K F (.exc x) v):∃a C,v=.ref a/\PySem.W.nsIn K mainGlobals x=some (some (.ref C))/\F a=some (ExcO a C):=by simpa only[Den] using h
theorem Den.obj{a:Addr}{l:List D}{v:V}(h:Den K F (.obj a l) v):v=.ref a/\∃C g d e,PySem.W.nsIn K mainGlobals "Bound" = some (some (.ref C))/\F a=some (.ins C g d)/\(flds.map λf=>d.lookup f)=e.map some/\DenL K F l e:=by simpa only[Den] using h
def Den.obj_mk{a C e:Addr}{l:List D}{d:List (Str×V)}{xs:List V}(c:PySem.W.nsIn K mainGlobals "Bound" = some (some (.ref C)))(q:F a=some (.ins C e d))(k:(flds.map λf=>d.lookup f)=xs.map some)(r:DenL K F l xs):Den K F (.obj a l) (.ref a):=by simp only[Den];exact⟨trivial,C,e,d,xs,c,q,k,r⟩
def Den.int_mk{i:Int}:Den K F (.int i) (.int i):=by simp only[Den]
def Den.bl_mk{b:Bool}:Den K F (.bl b) (.bl b):=by simp only[Den]
def Den.non_mk:Den K F .non .non:=by simp only[Den]
def Den.tup_mk{l:List D}{a:Addr}{d:List V}(q:SqT K F a d)(r:DenL K F l d):Den K F (.tup l) (.ref a):=by simp only[Den];exact⟨a,d,rfl,q,r⟩
def Den.lst_mk{l:List D}{a:Addr}{d:List V}(q:SqL K F a d)(r:DenL K F l d):Den K F (.lst l) (.ref a):=by simp only[Den];exact⟨a,d,rfl,q,r⟩
end
inductive W where
 |val (d:D)|new (l:List D)
def W.d:W->D
 |.val d=>d
 |.new l=>.lst l
abbrev Rho:=List (Option D)
structure ER(K:vE)(H0 Fc F H:Hp)(σ:St)(ρ:Rho):Prop where
 sub:Same F H
 same:Same H0 H
 base:Same Fc F
 new:∀a o,F a=some o->Fc a=some o\/H0 a=none
 env:∀(i:Nat) d,ρ[i]? = some (some d)->∃v,σ[i]? = some (some v)/\Den K F d v
def RW(K:vE)(f F H:Hp):W->V->Prop
 |.val d,v=>Den K F d v
 |.new l,v=>∃a e,v=.ref a/\F a=none/\f a=none/\H a=some (.lst e)/\DenL K F l e
def zbc{F:Hp}{a:Addr}{o:HO}(h:F a=none):Same F (upd F a o):=λb u e=>by
 rw[Bk (λz=>by subst z;rw[h] at e;cases e)];exact e
section
variable{K:vE}{H0 Fc F H:Hp}{σ:St}{ρ:Rho}
def ER.lay(R:ER K H0 Fc F H σ ρ){a:Addr}(o:HO)(g:H a=none):ER K H0 Fc (upd F a o) (upd H a o) σ ρ/\Same F (upd F a o):=by
 have j:F a=none:=by
  cases q:F a with
  |none=>rfl
  |some u=>rw[R.sub a u q] at g;cases g
 have l:H0 a=none:=R.same.free g;have h:=zbc (o:=o) j;refine⟨⟨λb u e=>?_,R.same.trans (zbc g),R.base.trans h,λb u e=>?_,λi d e=>?_⟩,h⟩
 ·by_cases f:b=a
  ·subst f;rw[Bm] at e |-;exact e
  ·rw[Bk f] at e |-;exact R.sub b u e
 ·by_cases f:b=a
  ·subst f;exact .inr l
  ·rw[Bk f] at e;exact R.new b u e
 ·obtain⟨v,m,n⟩:=R.env i d e
  exact⟨v,m,n.mono h⟩
def ER.freeze(R:ER K H0 Fc F H σ ρ){a:Addr}{g:List V}(j:F a=none)(l:H0 a=none)(m:H a=some (.lst g)):ER K H0 Fc (upd F a (.lst g)) H σ ρ/\Same F (upd F a (.lst g)):=by
 have h:=zbc (o:=.lst g) j;refine⟨⟨λb u e=>?_,R.same,R.base.trans h,λb u e=>?_,λi d e=>?_⟩,h⟩
 ·by_cases f:b=a
  ·subst f;rw[Bm] at e;cases e;exact m
  ·rw[Bk f] at e;exact R.sub b u e
 ·by_cases f:b=a
  ·subst f;exact .inr l
  ·rw[Bk f] at e;exact R.new b u e
 ·obtain⟨v,n,p⟩:=R.env i d e
  exact⟨v,n,p.mono h⟩
theorem RW.freeze{w:W}{v:V}(R:ER K H0 Fc F H σ ρ)(h:RW K H0 F H w v):∃f,Same F f/\ER K H0 Fc f H σ ρ/\Den K f w.d v:=by
 cases w with
 |val d=>exact⟨F,Same.refl _,R,h⟩
 |new l=>
  obtain⟨a,n,e,g,i,j,r⟩:=h
  subst e;obtain⟨m,s⟩:=R.freeze g i j
  exact⟨_,s,m,Den.lst_mk (SqL.of Bm) (r.mono s)⟩
end
section
variable(K:vE)(H0 Fc:Hp)(ρ:Rho)
def tD(w:W):TE:=λf H Q=>∃F,ER K H0 Fc F H f ρ/\∀v d e,Same F e->ER K H0 Fc e d f ρ->RW K H0 e d w v->Q v d
def tDf(d:D):TE:=λf H Q=>∃F,ER K H0 Fc F H f ρ/\∀v g e,Same F e->ER K H0 Fc e g f ρ->Den K e d v->Q v g
def tDA(h:List D):TA:=λe H Q=>∃F,ER K H0 Fc F H e ρ/\∀f g d,Same F d->ER K H0 Fc d g e ρ->DenL K d h f->Q f g
def tDT(b:Bool):TT:=λd H Q=>∃F,ER K H0 Fc F H d ρ/\∀e f,Same F f->ER K H0 Fc f e d ρ->Q b e
end
def PE.mono{X:Cx}{e:Expr}{t g:TE}(h:PE X e t)(k:∀d H Q,g d H Q->t d H Q):PE X e g:=λf s d H Q I q=>h f s d H Q I (k d H Q q)
def PT.mono{X:Cx}{e:Expr}{t g:TT}(h:PT X e t)(k:∀d H Q,g d H Q->t d H Q):PT X e g:=λf s d H Q I q=>h f s d H Q I (k d H Q q)
def PW.mono{X:Cx}{e:Expr}{t g:TT}(h:PW X e t)(k:∀d H Q,g d H Q->t d H Q):PW X e g:=λi f s d H Q I q=>h i f s d H Q I (k d H Q q)
def PA.mono{X:Cx}{e:List Expr}{t g:TA}(h:PA X e t)(k:∀d H Q,g d H Q->t d H Q):PA X e g:=λpos f s d H Q I q=>h pos f s d H Q I (k d H Q q)
def PS.mono{X:Cx}{e:Stmt}{t g:TS}(h:PS X e t)(k:∀D d H,g D d H->t D d H):PS X e g:=λf s d H D I q=>h f s d H D I (k D d H q)
def PSs.mono{X:Cx}{e:List Stmt}{t g:TS}(h:PSs X e t)(k:∀D d H,g D d H->t D d H):PSs X e g:=λf s d H D I q=>h f s d H D I (k D d H q)
def DE(X:Cx)(e:Expr)(d:Rho)(w:W):Prop:=∀f g,PE X e (tD X.K f g d w)
def DF(X:Cx)(e:Expr)(f:Rho)(d:D):Prop:=∀g h,PE X e (tDf X.K g h f d)
def DA(X:Cx)(d:List Expr)(e:Rho)(f:List D):Prop:=∀g h,PA X d (tDA X.K g h e f)
def DT(X:Cx)(e:Expr)(d:Rho)(b:Bool):Prop:=∀f g,PT X e (tDT X.K f g d b)
def DW(X:Cx)(e:Expr)(d:Rho)(b:Bool):Prop:=∀f g,PW X e (tDT X.K f g d b)
section
variable{X:Cx}{e a b c:Expr}{es:List Expr}{ρ:Rho}{w:W}{pos:Pos}
def DE.df(h:DE X e ρ w):DF X e ρ w.d:=λf g=>PE.mono (h f g) λo H Q ⟨F,R,k⟩=>
 ⟨F,R,λv i p s j q=>by
  obtain⟨l,m,R2,n⟩:=RW.freeze j q
  exact k v i l (s.trans m) R2 n⟩
def DF.de{d:D}(h:DF X e ρ d):DE X e ρ (.val d):=λf g=>PE.mono (h f g) λm H Q ⟨F,R,k⟩=>⟨F,R,λv i j s l q=>k v i j s l q⟩
def DF.var{i:Nat}{x:Str}{d:D}(f:X.N[i]? = some x)(g:Vis X.env.scope x)(h:(x == ("__debug__" : Str))=false)(e:(x == ("__classdict__" : Str))=false)(j:ρ[i]? = some (some d)):DF X (.Name x pos) ρ d:=λn o=>
 PE.mono (zak f g h e) λp H Q ⟨F,R,k⟩=>by
  obtain⟨v,l,m⟩:=R.env i d j
  exact⟨v,l,k v H F (Same.refl _) R m⟩
def DF.cint{i:Int}{j}:DF X (.Constant (.int i) j pos) ρ (.int i):=λd e=>PE.mono pe_int λf H Q ⟨F,R,k⟩=>k _ H F (Same.refl _) R Den.int_mk
def DF.cbl{i:Bool}{j}:DF X (.Constant (.bool i) j pos) ρ (.bl i):=λd e=>PE.mono pe_bl λf H Q ⟨F,R,k⟩=>k _ H F (Same.refl _) R Den.bl_mk
def DF.cnon{j}:DF X (.Constant .none j pos) ρ .non:=λd e=>PE.mono ygb λf H Q ⟨F,R,k⟩=>k _ H F (Same.refl _) R Den.non_mk
def zdx{x y:D}{e f:Hp}{r:R2}{w:W}{K:vE}
 (l:∀H F d v u (Q:VK),ER K e f F H d ρ->Den K F x v->Den K F y u->(∀i g h,Same F h->ER K e f h g d ρ->RW K e h g w i->Q i g)->r v u H Q):
  ∀d H Q,tD K e f ρ w d H Q->tOp r (tDf K e f ρ x) (tDf K e f ρ y) d H Q:=λd H Q ⟨F,R,k⟩=>
 ⟨F,R,λv C m n o p=>⟨m,o,λu q s j R2 t=>l q s d v u Q R2 (p.mono j) t λi g h z A B=>k i g h ((n.trans j).trans z) A B⟩⟩
def DE.opI{d:Operator}{C:Int->Int->Prop}{g:Int->Int->V}{x y:Int}{z:D}(h:OpR X (binaryOp d) (rI C g))(i:DF X a ρ (.int x))(j:DF X b ρ (.int y))(l:C x y)(m:∀K F,Den K F z (g x y)):
  DE X (.BinOp a d b pos) ρ (.val z):=λe f=>PE.mono (yjm h (i e f) (j e f)) (zdx λH F r v u Q R n o k=>by
   have p:=n.int;have q:=o.int;subst p;subst q;exact⟨x,y,rfl,rfl,l,k _ H F (Same.refl _) R (m _ _)⟩)
def DE.opI0{d:Operator}{g:Int->Int->V}{x y:Int}{z:D}(h:OpR X (binaryOp d) (rI0 g))(i:DF X a ρ (.int x))(j:DF X b ρ (.int y))(l:∀K F,Den K F z (g x y)):
  DE X (.BinOp a d b pos) ρ (.val z):=λe f=>PE.mono (yjm h (i e f) (j e f)) (zdx λH F q v u Q R m n k=>by
   have o:=m.int;have p:=n.int;subst o;subst p;exact⟨x,y,rfl,rfl,k _ H F (Same.refl _) R (l _ _)⟩)
end
open PySem L2 PyProof.Rows
section
variable{K:vE}{H0 Fc F H:Hp}{σ:L2.St}{ρ:Rho}
def ER.put(R:ER K H0 Fc F H σ ρ){a:Addr}(o:HO)(d:H a=none):ER K H0 Fc F (upd H a o) σ ρ/\F a=none/\H0 a=none:=by
 have e:F a=none:=by
  cases q:F a with
  |none=>rfl
  |some u=>rw[R.sub a u q] at d;cases d
 exact⟨⟨R.sub.trans (zbc d),R.same.trans (zbc d),R.base,R.new,R.env⟩,e,R.same.free d⟩
end
section
variable{K:vE}{H0 F H:Hp}
theorem RW.v{d:D}{v:V}(h:Den K F d v):RW K H0 F H (.val d) v:=h
theorem RW.int{i:Int}:RW K H0 F H (.val (.int i)) (.int i):=RW.v Den.int_mk
theorem RW.bl{i:Bool}:RW K H0 F H (.val (.bl i)) (.bl i):=RW.v Den.bl_mk
def RW.n{l:List D}{a:Addr}{d:List V}(e:F a=none)(f:H0 a=none)(g:H a=some (.lst d))(h:DenL K F l d):RW K H0 F H (.new l) (.ref a):=⟨a,d,rfl,e,f,g,h⟩
end
section
variable{X:Cx}{e a b c:Expr}{es:List Expr}{ρ:Rho}{w:W}{pos:Pos}
def yhn{x:D}{e h:Hp}{r:V->Hp->VK->Prop}{w:W}{K:vE}
 (j:∀H F d v (Q:VK),ER K e h F H d ρ->Den K F x v->(∀i f g,Same F g->ER K e h g f d ρ->RW K e g f w i->Q i f)->r v H Q):
  ∀d H Q,tD K e h ρ w d H Q->tUn r (tDf K e h ρ x) d H Q:=λd H Q ⟨F,R,k⟩=>
 ⟨F,R,λv l m n o p=>j l m d v Q o p λi f g q s t=>k i f g (n.trans q) s t⟩
def DE.neg{x:Int}(d:DF X a ρ (.int x)):DE X (.UnaryOp .USub a pos) ρ (.val (.int (-x))):=λe f=>PE.mono (pe_un un_neg (d e f)) (yhn λH F i v Q R g k=>by
 have h:=g.int;subst h;exact⟨x,rfl,k _ H F (Same.refl _) R RW.int⟩)
def Bf:Expr->Bool
 |.Starred _ _=>false
 |_=>true
def Bl{env:Env}(h:Bf e=true):starEach (e::es) env=(false,eval e env)::starEach es env:=by
 cases e<;>first|rfl|(cases h;done)
theorem zde{env:Env}:∀{es:List Expr},es.all Bf=true->(backTo pos (starEach es env)).any (·.1)=false
 |[],_=>rfl
 |e::es,h=>by
  rw[Wz,Zj] at h;rw[Bl h.1];show(false || (backTo pos (starEach es env)).any (·.1))=false;rw[zde h.2];rfl
theorem DA.nil:DA X [] ρ []:=λd e=>PA.mono zgk λf H Q ⟨F,R,k⟩=>k [] H F (Same.refl _) R DenL.nil
theorem DA.cons{d:D}{f:List D}(j:DF X e ρ d)(l:DA X es ρ f)(m:Bf e=true):DA X (e::es) ρ (d::f):=λg h=>
 PA.mono (zcc (j g h) (l g h) (Bl m)) λw H Q ⟨F,R,k⟩=>
  ⟨F,R,λv z n o p q=>⟨n,p,λr s t i R2 u=>k (v::r) s t (o.trans i) R2 (DenL.cons (q.mono i) u)⟩⟩
theorem DE.tup{d:List D}{g}(h:DA X es ρ d)(i:d.length<=sizeLine):DE X (.Tuple es g pos) ρ (.val (.tup d)):=λj l=>PE.mono (pe_tup (h j l)) λr H Q ⟨F,R,k⟩=>
 ⟨F,R,λm s t n o e=>⟨by rw[e.length];exact i,λp q=>by
  obtain⟨R2,f⟩:=o.lay (.tup m) q
  exact k _ _ _ (n.trans f) R2 (RW.v (Den.tup_mk (SqT.of Bm) (e.mono f)))⟩⟩
theorem DE.lst{d:List D}(f:DA X es ρ d)(g:d.length<=sizeLine):DE X (.List es pos) ρ (.new d):=λh i=>PE.mono (ygc (f h i)) λs H Q ⟨F,R,k⟩=>
 ⟨F,R,λj t u l m e=>⟨by rw[e.length];exact g,λp o=>by
  obtain⟨R2,q,r⟩:=m.put (.lst j) o
  exact k _ _ _ l R2 (RW.n q r Bm e)⟩⟩
def zdr:Expr->Bool
 |.Slice _ _ _ _=>false
 |_=>true
def zxf(h:zdr b=true):yam b:=λo i=>by
 cases b<;>first|rfl|(cases h;done)
def yai{K:vE}{F:Hp}{l:List D}{f:List V}{i:Int}{d:D}(h:DenL K F l f)(e:atI l i=some d):∃v,atI f i=some v/\Den K F d v:=by
 unfold atI at e |-;rw[h.length];cases q:ixN l.length i with
 |none=>rw[q] at e;cases e
 |some j=>
  rw[q] at e;exact h.get e
def DE.ixT{l:List D}{i:Int}{d:D}(g:DF X a ρ (.tup l))(h:DF X b ρ (.int i))(j:zdr b=true)(m:atI l i=some d):DE X (.Subscript a b pos) ρ (.val d):=λe f=>
 PE.mono (pe_ix ix_tup (g e f) (h e f) (zxf j)) (zdx λH F B v u Q R n o k=>by
  obtain⟨p,q,s,t,r⟩:=n.tup
  have w:=o.int;subst s;subst w;obtain⟨y,z,A⟩:=yai r m
  exact⟨p,q,i,y,rfl,rfl,Same.tup R.sub t,z,k _ H F (Same.refl _) R (RW.v A)⟩)
def DE.ixL{l:List D}{i:Int}{d:D}(g:DF X a ρ (.lst l))(h:DF X b ρ (.int i))(j:zdr b=true)(m:atI l i=some d):DE X (.Subscript a b pos) ρ (.val d):=λe f=>
 PE.mono (pe_ix ykz (g e f) (h e f) (zxf j)) (zdx λH F B v u Q R n o k=>by
  obtain⟨p,q,s,t,r⟩:=n.lst
  have w:=o.int;subst s;subst w;obtain⟨y,z,A⟩:=yai r m
  exact⟨p,q,i,y,rfl,rfl,R.sub.seq t,z,k _ H F (Same.refl _) R (RW.v A)⟩)
def DO(X:Cx)(e:Option Expr)(ρ:Rho)(o:Option Int):Prop:=∀d f,PO X e (λg H Q=>∃F,ER X.K d f F H g ρ/\∀h i,Same F i->ER X.K d f i h g ρ->Q o h)
theorem DO.none:DO X none ρ none:=λe f pins s d H Q I ⟨F,R,k⟩=>yjl pins s d H Q I (k H F (Same.refl _) R)
theorem DO.some{i:Int}(h:DF X e ρ (.int i)):DO X (some e) ρ (some i):=λd f pins s g H Q I ⟨F,R,k⟩=>yjk (h d f) pins s g H Q I
 ⟨F,R,λv j l m n o=>⟨i,o.int,k j l m n⟩⟩
def cutD(l:List D)(d e:Option Int):List D:=(l.drop (HT.sIx l.length 0 d)).take (HT.sIx l.length l.length e-HT.sIx l.length 0 d)
def yef{K:vE}{F:Hp}{l:List D}{d:List V}{e f:Option Int}(h:DenL K F l d):DenL K F (cutD l e f) (cutV d e f):=by
 unfold cutD cutV;rw[h.length];exact(h.drop _).take _
def DE.slL{l:List D}{h m:Option Expr}{i j:Option Int}{t:Pos}(u:DF X a ρ (.lst l))(w:DO X h ρ i)(z:DO X m ρ j):DE X (.Subscript a (.Slice h m none t) pos) ρ (.new (cutD l i j)):=λd e=>
 PE.mono (ycj yie (u d e) (w d e) (z d e)) λO H Q ⟨F,R,k⟩=>⟨F,R,λv P A B C E=>⟨A,C,λS G f R2=>⟨G,R2,λH3 T g o=>by
  obtain⟨p,s,I,J,r⟩:=E.lst
  subst I;refine⟨p,s,rfl,o.sub.seq (g.seq (f.seq J)),λq K=>?_⟩
  obtain⟨L,M,N⟩:=o.put (.lst (cutV s i j)) K
  exact k _ _ _ (B.trans (f.trans g)) L (RW.n M N Bm (yef ((r.mono f).mono g)))⟩⟩⟩
def spD(K:vE)(n:Nat)(g:∅):Sp:=λh H Q _=>∃F f w,Same F H/\DenL K F f h/\f.length=n/\g f=some w /\
 ∀v d e,Same H d->Same F e->Same e d->(∀a o,e a=some o->F a=some o\/H a=none)->RW K H e d w v->Q v d
def yhj(X:Cx)(x:Str)(n:Nat)(e:∅):Prop:=∃(k:Nat) (f:Addr) (d:FuncData) (ps:List Str),
 FnOk X.prog X.w X.K X.mg X.base CX0 k f d ps (spD X.K n e)/\Room k X.A/\X.mg x=some (.ref f)/\PySem.W.keepIn X.K (.ref f)=true/\Binds X.K d ps []
def ER.called{K:vE}{H0 Fc F H f g:Hp}{σ:L2.St}{ρ:Rho}(R:ER K H0 Fc F H σ ρ)(j:Same H g)(h:Same F f)(l:Same f g)(m:∀a o,f a=some o->F a=some o\/H a=none):ER K H0 Fc f g σ ρ:=
 ⟨l,R.same.trans j,R.base.trans h,λa o e=>(m a o e).elim (R.new a o) λz=>.inr (R.same.free z),λi d e=>by
  obtain⟨v,n,p⟩:=R.env i d e
  exact⟨v,n,p.mono h⟩⟩
def DE.call{x:Str}{p:Pos}{n:Nat}{m:∅}{g:List D}(r:yhj X x n m)(s:Gl X x)(h:(x == ("__debug__" : Str))=false)(t:DA X (e::es) ρ g)(u:g.length=n)(z:m g=some w)(A:Bf e=true)(i:es.all Bf=true):
  DE X (.Call (.Name x p) (e::es) [] pos) ρ w:=λB C=>by
 obtain⟨k,f,fd,ps,G,I,J,K,L⟩:=r
 refine PE.mono (zqf (E:=E0) G I s J K L .nil ycm (t B C) h (Bl A) (zde i)) λσ H Q ⟨F,R,k⟩=>⟨F,R,λvs H1 M N j O=>?_⟩
 refine⟨M,g,w,j.sub,by rw[K3];exact O,u,z,λv P S T o U V q=>k v P S (N.trans o) (j.called T o U V) ?_⟩
 cases w with
 |val d=>exact q
 |new l=>
  obtain⟨a,Y,Z,b1,b2,b3,b4⟩:=q
  exact⟨a,Y,Z,b1,j.same.free b2,b3,b4⟩
def DT.val{e:Expr}{k:Bool}(h:DF X e ρ (.bl k))(f:∀d,isTrue e X.env d=(do let v <-d;standAt e.pos;holding [v] (truthy v))):DT X e ρ k:=λg i=>
 PT.mono (pt_val (h g i) f) λp H Q ⟨F,R,q⟩=>⟨F,R,λv j l m n o=>⟨k,o.bl,q j l m n⟩⟩
def DT.not{k:Bool}(h:DT X a ρ k):DT X (.UnaryOp .Not a pos) ρ (!k):=λd e=>PT.mono (pt_not (h d e)) λl H Q ⟨F,R,q⟩=>⟨F,R,λf g i j=>q f g i j⟩
def DW.dt{k:Bool}(h:DW X e ρ k):DT X e ρ k:=λd f=>(h d f).pt
def DW.and1{k:Bool}(h:DT X a ρ k):DW X (.BoolOp .And [a] pos) ρ k:=λd e=>yjg (h d e)
def DW.or1{k:Bool}(h:DT X a ρ k):DW X (.BoolOp .Or [a] pos) ρ k:=λd e=>pw_or1 (h d e)
def DW.andT{k:Bool}(h:DT X a ρ true)(f:DW X (.BoolOp .And (b::es) pos) ρ k):DW X (.BoolOp .And (a::b::es) pos) ρ k:=λd e=>PW.mono (yfx (h d e) (f d e)) λo H Q ⟨F,R,q⟩=>
 ⟨F,R,λp g i j=>iteT (⟨g,j,λl m n R2=>q l m (i.trans n) R2⟩)⟩
def DW.andF{tb}(h:DT X a ρ false)(d:PW X (.BoolOp .And (b::es) pos) tb):DW X (.BoolOp .And (a::b::es) pos) ρ false:=λe f=>PW.mono (yfx (h e f) d) λm H Q ⟨F,R,q⟩=>
 ⟨F,R,λg i j l=>iteF (q g i j l)⟩
def DW.orF{k:Bool}(h:DT X a ρ false)(f:DW X (.BoolOp .Or (b::es) pos) ρ k):DW X (.BoolOp .Or (a::b::es) pos) ρ k:=λd e=>PW.mono (pw_or (h d e) (f d e)) λo H Q ⟨F,R,q⟩=>
 ⟨F,R,λp g i j=>iteF (⟨g,j,λl m n R2=>q l m (i.trans n) R2⟩)⟩
def DW.orT{tb}(h:DT X a ρ true)(d:PW X (.BoolOp .Or (b::es) pos) tb):DW X (.BoolOp .Or (a::b::es) pos) ρ true:=λe f=>PW.mono (pw_or (h e f) d) λm H Q ⟨F,R,q⟩=>
 ⟨F,R,λg i j l=>iteT (q g i j l)⟩
def zrw:PW X e (λ_ _ _=>False):=λ_ _ _ _ _ _ _ h=>h.elim
def zhp:PE X e (λ_ _ _=>False):=λ_ _ _ _ _ _ h=>h.elim
def DE.not{k:Bool}(h:DF X a ρ (.bl k)):DE X (.UnaryOp .Not a pos) ρ (.val (.bl (!k))):=λd e=>PE.mono (pe_not (h d e)) λm H Q ⟨F,R,q⟩=>
 ⟨F,R,λv f g i j l=>⟨k,l.bl,q _ f g i j RW.bl⟩⟩
def DE.one{d}(h:DE X a ρ w):DE X (.BoolOp d [a] pos) ρ w:=λe f=>pe_one (h e f)
def DE.andT(h:DF X a ρ (.bl true))(f:DE X (.BoolOp .And (b::es) pos) ρ w):DE X (.BoolOp .And (a::b::es) pos) ρ w:=λd e=>PE.mono (yge (h d e) (f d e)) λr H Q ⟨F,R,q⟩=>
 ⟨F,R,λv s g i j l=>⟨true,l.bl,iteT (⟨g,j,λv m n o R2 p=>q v m n (i.trans o) R2 p⟩)⟩⟩
def DE.andF(h:DF X a ρ (.bl false)):DE X (.BoolOp .And (a::b::es) pos) ρ (.val (.bl false)):=λd e=>PE.mono (yge (h d e) zhp) λm H Q ⟨F,R,q⟩=>
 ⟨F,R,λv f g i j l=>⟨false,l.bl,iteF (q _ f g i j RW.bl)⟩⟩
def DE.orF(h:DF X a ρ (.bl false))(f:DE X (.BoolOp .Or (b::es) pos) ρ w):DE X (.BoolOp .Or (a::b::es) pos) ρ w:=λd e=>PE.mono (pe_or (h d e) (f d e)) λr H Q ⟨F,R,q⟩=>
 ⟨F,R,λv s g i j l=>⟨false,l.bl,iteF (⟨g,j,λv m n o R2 p=>q v m n (i.trans o) R2 p⟩)⟩⟩
def DE.orT(h:DF X a ρ (.bl true)):DE X (.BoolOp .Or (a::b::es) pos) ρ (.val (.bl true)):=λd e=>PE.mono (pe_or (h d e) zhp) λm H Q ⟨F,R,q⟩=>
 ⟨F,R,λv f g i j l=>⟨true,l.bl,iteT (q _ f g i j RW.bl)⟩⟩
def DE.ifT{c:Expr}(f:DT X c ρ true)(g:DE X a ρ w):DE X (.IfExp c a b pos) ρ w:=λd e=>PE.mono (zry (f d e) (g d e) zhp) λp H Q ⟨F,R,q⟩=>
 ⟨F,R,λr h i j=>iteT (⟨h,j,λv l m n R2 o=>q v l m (i.trans n) R2 o⟩)⟩
def DE.ifF{c:Expr}(f:DT X c ρ false)(g:DE X b ρ w):DE X (.IfExp c a b pos) ρ w:=λd e=>PE.mono (zry (f d e) zhp (g d e)) λp H Q ⟨F,R,q⟩=>
 ⟨F,R,λr h i j=>iteF (⟨h,j,λv l m n R2 o=>q v l m (i.trans n) R2 o⟩)⟩
def zcy(X:Cx)(d:CmpOp)(x y:D)(k:Bool):Prop:=∃r,OpR X (compareOp d) r /\
 ∀(H F:Hp) (v u:V) (Q:VK),Same F H->Den X.K F x v->Den X.K F y u->Q (.bl k) H->r v u H Q
def DE.cmp{d:CmpOp}{x y:D}{k:Bool}(g:zcy X d x y k)(h:DF X a ρ x)(i:DF X b ρ y)(j:behindInMarks d b=false):DE X (.Compare a [d] [b] pos) ρ (.val (.bl k)):=λe f=>by
 obtain⟨r,l,m⟩:=g
 exact PE.mono (yjp l (h e f) (i e f) j) (zdx λH F p v u Q R n o q=>m H F v u Q R.sub n o (q _ H F (Same.refl _) R RW.bl))
def DT.cmp{d:CmpOp}{x y:D}{k:Bool}(j:zcy X d x y k)(l:DF X a ρ x)(m:DF X b ρ y)(n:behindInMarks d b=false):DT X (.Compare a [d] [b] pos) ρ k:=λe f=>by
 obtain⟨r,o,p⟩:=j
 refine PT.mono (yjh o (l e f) (m e f) n) λB H Q ⟨F,R,q⟩=>⟨F,R,λv C s t w z=>⟨s,w,λu g h i R2 A=>?_⟩⟩
 exact p g h v u _ R2.sub (z.mono i) A ⟨k,rfl,q g h (t.trans i) R2⟩
def cmpI{d:CmpOp}{g:Int->Int->Bool}{x y:Int}(e:OpR X (compareOp d) (rI0 λi j=>.bl (g i j))):zcy X d (.int x) (.int y) (g x y):=
 ⟨_,e,λH F v u Q s f h q=>⟨x,y,f.int,h.int,q⟩⟩
def cmp_lt{x y:Int}:zcy X .Lt (.int x) (.int y) (decide (x<y)):=cmpI op_lt
def cmp_le{x y:Int}:zcy X .LtE (.int x) (.int y) (decide (x<=y)):=cmpI op_le
def cmp_gt{x y:Int}:zcy X .Gt (.int x) (.int y) (decide (y<x)):=cmpI op_gt
def cmp_ge{x y:Int}:zcy X .GtE (.int x) (.int y) (decide (y<=x)):=cmpI op_ge
def ymr{x y:Int}:zcy X .Eq (.int x) (.int y) (decide (x=y)):=⟨_,op_eq,λH F v u Q s d e q=>by
 have f:=d.int;have g:=e.int;subst f;subst g;exact⟨rfl,by rw[zmj,Vy];exact q⟩⟩
def ymn{x y:Int}:zcy X .NotEq (.int x) (.int y) (!decide (x=y)):=⟨_,op_ne,λH F v u Q s d e q=>by
 have f:=d.int;have g:=e.int;subst f;subst g;exact⟨rfl,by rw[zmj,Vy];exact q⟩⟩
def yms{x y:Bool}:zcy X .Eq (.bl x) (.bl y) (x == y):=⟨_,op_eq,λH F v u Q s d e q=>by
 have f:=d.bl;have g:=e.bl;subst f;subst g;exact⟨rfl,by rw[zsz];exact q⟩⟩
def ymo{x y:Bool}:zcy X .NotEq (.bl x) (.bl y) (!(x == y)):=⟨_,op_ne,λH F v u Q s d e q=>by
 have f:=d.bl;have g:=e.bl;subst f;subst g;exact⟨rfl,by rw[zsz];exact q⟩⟩
def zor:D->Bool
 |.non=>true
 |_=>false
def zoq{K:vE}{F:Hp}{d:D}{v:V}(h:Den K F d v):decide (v=V.non)=zor d:=by
 cases d with
 |non=>rw[h.non];rfl
 |bl b=>rw[h.bl];rfl
 |int i=>rw[h.int];rfl
 |tup l=>obtain⟨a,f,e,_⟩:=h.tup;rw[e];rfl
 |lst l=>obtain⟨a,f,e,_⟩:=h.lst;rw[e];rfl
 |exc x=>obtain⟨a,C,e,_⟩:=h.exc;rw[e];rfl
 |obj a l=>rw[h.obj.1];rfl
def ymp{x:D}:zcy X .Is x .non (zor x):=⟨_,op_isN,λH F v u Q s d e q=>⟨e.non,by rw[zoq d];exact q⟩⟩
def yek{x:D}:zcy X .IsNot x .non (!zor x):=⟨_,yjv,λH F v u Q s d e q=>⟨e.non,by rw[zoq d];exact q⟩⟩
def zes(X:Cx)(f:Value)(m:List D)(w:W):Prop:=∃r,zgi X f r /\
 ∀(d h H F:Hp) (i:L2.St) (ρ:Rho) (j:List V) (Q:VK),ER X.K d h F H i ρ->DenL X.K F m j->(∀l e g,Same F g->ER X.K d h g e i ρ->RW X.K d g e w l->Q l e)->r j H Q
def DE.blt{x:Str}{id:String}{p:Pos}{g:List D}(j:zes X (.builtin id) g w)(l:Gl X x)(m:X.mg x=none)(n:bootBuiltins x=some (.builtin id))(o:x ≠ "__name__")(d:(x == ("__debug__" : Str))=false)(q:DA X (e::es) ρ g)(s:Bf e=true)(f:es.all Bf=true):
  DE X (.Call (.Name x p) (e::es) [] pos) ρ w:=λh i=>by
 obtain⟨r,t,u⟩:=j
 refine PE.mono (zrz t l m n (q h i) o d (Bl s) (zde f)) λv H Q ⟨F,R,k⟩=>⟨F,R,λz A B C E G=>?_⟩
 exact u h i A B v ρ z Q E G λI J K L M N=>k I J K (C.trans L) M N
def DE.ty{x:Str}{id:String}{p:Pos}{g:List D}(j:zes X (.type id) g w)(l:Gl X x)(m:X.mg x=none)(n:bootBuiltins x=some (.type id))(o:x ≠ "__name__")(d:(x == ("__debug__" : Str))=false)(q:DA X (e::es) ρ g)(s:Bf e=true)(f:es.all Bf=true):
  DE X (.Call (.Name x p) (e::es) [] pos) ρ w:=λh i=>by
 obtain⟨r,t,u⟩:=j
 refine PE.mono (zxj t l m n (q h i) o d (Bl s) (zde f)) λv H Q ⟨F,R,k⟩=>⟨F,R,λz A B C E G=>?_⟩
 exact u h i A B v ρ z Q E G λI J K L M N=>k I J K (C.trans L) M N
def DenL.one{K:vE}{F:Hp}{d:D}{f:List V}(h:DenL K F [d] f):∃v,f=[v]/\Den K F d v:=by
 obtain⟨v,r,e,q,z⟩:=h.inv_cons
 rw[z.inv_nil] at e;exact⟨v,e,q⟩
def DenL.two{K:vE}{F:Hp}{d g:D}{i:List V}(h:DenL K F [d,g] i):∃v f,i=[v,f]/\Den K F d v/\Den K F g f:=by
 obtain⟨v,r,e,q,z⟩:=h.inv_cons
 obtain⟨f,j,l⟩:=z.one
 rw[j] at e;exact⟨v,f,e,q,l⟩
def ynd{i:Int}:zes X (.builtin "abs") [.int i] (.val (.int (if i<0 then -i else i))):=⟨_,yep,λd f H F g ρ h Q R q k=>by
 obtain⟨v,e,q⟩:=q.one
 rw[q.int] at e;exact⟨i,e,k _ H F (Same.refl _) R RW.int⟩⟩
def yey{l:List D}:zes X (.builtin "len") [.lst l] (.val (.int l.length)):=⟨_,zgp,λh i H F j ρ m Q R q k=>by
 obtain⟨v,e,q⟩:=q.one
 obtain⟨p,d,f,g,r⟩:=q.lst
 rw[f] at e;exact⟨p,d,e,.inl (R.sub.seq g),by rw[r.length];exact k _ H F (Same.refl _) R RW.int⟩⟩
def yex{l:List D}:zes X (.builtin "len") [.tup l] (.val (.int l.length)):=⟨_,zgp,λh i H F j ρ m Q R q k=>by
 obtain⟨v,e,q⟩:=q.one
 obtain⟨p,d,f,g,r⟩:=q.tup
 rw[f] at e;exact⟨p,d,e,.inr (Same.tup R.sub g),by rw[r.length];exact k _ H F (Same.refl _) R RW.int⟩⟩
end
open PySem L2 PyProof.Rows
mutual
def lf:D->Bool
 |.non=>true
 |.bl _=>true
 |.int _=>true
 |.tup l=>lfL l
 |.lst _=>false
 |.exc _=>false
 |.obj _ _=>false
def lfL:List D->Bool
 |[]=>true
 |d::l=>lf d && lfL l
end
def lfW:W->Bool
 |.val d=>lf d
 |.new l=>lfL l
mutual
theorem Den.shrink{K:vE}{F i:Hp}(s:∀a g,SqT K F a g->SqT K i a g):∀(d:D){v:V},lf d=true->Den K F d v->Den K i d v
 |.non,_,_,h=>by simpa only[Den] using h
 |.bl _,_,_,h=>by simpa only[Den] using h
 |.int _,_,_,h=>by simpa only[Den] using h
 |.tup l,_,f,h=>by
  obtain⟨a,g,e,q,r⟩:=h.tup
  subst e;exact Den.tup_mk (s _ _ q) (DenL.shrink s l (by simpa only[lf] using f) r)
 |.lst l,_,f,h=>by simp only[lf] at f;cases f
 |.exc l,_,f,h=>by simp only[lf] at f;cases f
 |.obj _ _,_,f,h=>by simp only[lf] at f;cases f
theorem DenL.shrink{K:vE}{F i:Hp}(s:∀a g,SqT K F a g->SqT K i a g):∀(l:List D){g:List V},lfL l=true->DenL K F l g->DenL K i l g
 |[],_,_,h=>by simpa only[DenL] using h
 |d::l,_,f,h=>by
  simp only[lfL,Zj] at f;obtain⟨v,j,e,q,r⟩:=h.inv_cons
  subst e;exact DenL.cons (Den.shrink s d f.1 q) (DenL.shrink s l f.2 r)
end
inductive B where
 |sh (d:D)|ow (l:List D)
def B.d:B->D
 |.sh d=>d
 |.ow l=>.lst l
def W.b:W->B
 |.val d=>.sh d
 |.new l=>.ow l
abbrev RhoS:=List (Option B)
def view(e:RhoS):Rho:=e.map (Option.map B.d)
def frz(e:RhoS):RhoS:=e.map (Option.map λb=>.sh b.d)
def yas{e:RhoS}{i:Nat}{d:D}(h:(view e)[i]? = some (some d)):∃b,e[i]? = some (some b)/\b.d=d:=by
 unfold view at h;rw[Zi] at h;cases q:e[i]? with
 |none=>rw[q] at h;cases h
 |some o=>
  rw[q] at h;cases o with
  |none=>cases h
  |some b=>exact⟨b,rfl,by simpa using h⟩
def zmh{e:RhoS}{i:Nat}{b:B}(h:(frz e)[i]? = some (some b)):∃c,e[i]? = some (some c)/\b=.sh c.d:=by
 unfold frz at h;rw[Zi] at h;cases q:e[i]? with
 |none=>rw[q] at h;cases h
 |some o=>
  rw[q] at h;cases o with
  |none=>cases h
  |some c=>exact⟨c,rfl,by simpa using h.symm⟩
structure SR(K:vE)(H0 Fc F H:Hp)(σ:L2.St)(ρ:RhoS):Prop where
 sub:Same F H
 same:Same H0 H
 base:Same Fc F
 new:∀a o,F a=some o->Fc a=some o\/H0 a=none
 env:∀(i:Nat) d,ρ[i]? = some (~~~d)->∃v,σ[i]? = some (some v)/\Den K F d v
 own:∀(i:Nat) l,ρ[i]? = some (some (.ow l))->∃a xs,σ[i]? = some (some (.ref a))/\F a=none/\H0 a=none/\H a=some (.lst xs)/\DenL K F l xs
 dis:∀(i j:Nat) l m a,ρ[i]? = some (some (.ow l))->ρ[j]? = some (some (.ow m))->σ[i]? = some (some (.ref a))->σ[j]? = some (some (.ref a))->i=j
 len:σ.length=ρ.length
def Owned(d:L2.St)(e:RhoS)(a:Addr):Prop:=∃(i:Nat) (l:List D),e[i]? = some (some (.ow l))/\d[i]? = some (some (.ref a))
section
variable{K:vE}{H0 Fc F H:Hp}{σ:L2.St}{ρ:RhoS}
def SR.owned_none(S:SR K H0 Fc F H σ ρ){a:Addr}(h:Owned σ ρ a):F a=none/\H0 a=none/\∃d,H a=some (.lst d):=by
 obtain⟨i,l,f,g⟩:=h
 obtain⟨b,d,e,p,q,r,_⟩:=S.own i l f
 rw[g] at e;cases e;exact⟨p,q,d,r⟩
open Classical in
def borrow(F H:Hp)(σ:L2.St)(ρ:RhoS):Hp:=λa=>if Owned σ ρ a then H a else F a
open Classical in
theorem SR.borrow(S:SR K H0 Fc F H σ ρ):Same F (borrow F H σ ρ)/\ER K H0 Fc (borrow F H σ ρ) H σ (view ρ):=by
 have s:Same F (DL.borrow F H σ ρ):=λa o e=>by
  unfold DL.borrow;rw[if_neg (λz=>by rw[(S.owned_none z).1] at e;cases e)];exact e
 refine⟨s,⟨λa o e=>?_,S.same,S.base.trans s,λa o e=>?_,λi d e=>?_⟩⟩
 ·unfold DL.borrow at e;by_cases f:Owned σ ρ a
  ·rw[if_pos f] at e;exact e
  ·rw[if_neg f] at e;exact S.sub a o e
 ·unfold DL.borrow at e;by_cases f:Owned σ ρ a
  ·exact .inr (S.owned_none f).2.1
  ·rw[if_neg f] at e;exact S.new a o e
 ·obtain⟨b,g,h⟩:=yas e
  subst h;cases b with
  |sh d=>
   obtain⟨v,p,q⟩:=S.env i d g
   exact⟨v,p,q.mono s⟩
  |ow l=>
   obtain⟨a,j,p,_,_,r,q⟩:=S.own i l g
   refine⟨_,p,Den.lst_mk (SqL.of ?_) (q.mono s)⟩
   unfold DL.borrow;rw[if_pos ⟨i,l,g,p⟩];exact r
open Classical in
theorem SR.back(S:SR K H0 Fc F H σ ρ){j B:Hp}{w:W}{v:V}(s:Same (DL.borrow F H σ ρ) j)(R:ER K H0 Fc j B σ (view ρ))(q:RW K H0 j B w v)(f:lfW w=true):
  ∃D,Same F D/\SR K H0 Fc D B σ ρ/\RW K H0 D B w v:=by
 have A:∀{a},Owned σ ρ a->∃m,j a=some (.lst m):=λ{a} z=>by
  obtain⟨_,_,m,r⟩:=S.owned_none z
  exact⟨m,s a _ (by unfold DL.borrow;rw[if_pos z];exact r)⟩
 have C:Same F (λa=>if Owned σ ρ a then none else j a):=λa o e=>by
  have g:¬Owned σ ρ a:=λz=>by rw[(S.owned_none z).1] at e;cases e
  show(if Owned σ ρ a then none else j a)=some o;rw[if_neg g];exact s a o (S.borrow.1 a o e)
 have t:∀a o,(if Owned σ ρ a then none else j a)=some o->j a=some o:=λa o e=>by
  by_cases g:Owned σ ρ a
  ·rw[if_pos g] at e;cases e
  ·rw[if_neg g] at e;exact e
 have u:∀a m,SqT K j a m->SqT K (λa=>if Owned σ ρ a then none else j a) a m:=λa m h=>by
  rcases h with h|h
  ·refine .inl ?_;have g:¬Owned σ ρ a:=λz=>by
    obtain⟨L,e⟩:=A z
    rcases h with h|⟨o,h⟩
    ·rw[e] at h;cases h
    ·rw[e] at h;cases h
   rcases h with h|⟨o,h⟩
   ·exact .inl (by show(if Owned σ ρ a then none else j a)=_;rw[if_neg g];exact h)
   ·exact .inr ⟨o,by show(if Owned σ ρ a then none else j a)=_;rw[if_neg g];exact h⟩
  ·exact .inr h
 refine⟨_,C,⟨λa o e=>R.sub a o (t a o e),R.same,S.base.trans C,λa o e=>R.new a o (t a o e),λi d e=>?_,λi l e=>?_,S.dis,S.len⟩,?_⟩
 ·obtain⟨v,p,q⟩:=S.env i d e
  exact⟨v,p,q.mono C⟩
 ·obtain⟨a,m,p,J,E,G,I⟩:=S.own i l e
  have g:Owned σ ρ a:=⟨i,l,e,p⟩;refine⟨a,m,p,if_pos g,E,?_,I.mono C⟩
  exact R.sub _ _ (s a _ (by unfold DL.borrow;rw[if_pos g];exact G))
 ·cases w with
  |val d=>exact Den.shrink u d f q
  |new l=>
   obtain⟨a,m,e,J,E,G,I⟩:=q
   subst e;refine RW.n ?_ E G (DenL.shrink u l f I);by_cases g:Owned σ ρ a
   ·exact if_pos g
   ·exact(if_neg g).trans J
def SR.freeze(S:SR K H0 Fc F H σ ρ){g n:Hp}(s:Same (DL.borrow F H σ ρ) g)(R:ER K H0 Fc g n σ (view ρ)):Same F g/\SR K H0 Fc g n σ (frz ρ):=by
 refine⟨S.borrow.1.trans s,R.sub,R.same,R.base,R.new,λi d e=>?_,λi l e=>?_,λi j l m a e=>?_,?_⟩
 ·obtain⟨c,h,f⟩:=zmh e
  cases f;refine R.env i c.d ?_;unfold view;rw[Zi,h];rfl
 ·obtain⟨c,h,f⟩:=zmh e
  cases f
 ·obtain⟨c,h,f⟩:=zmh e
  cases f
 ·rw[S.len];unfold frz;rw[Zd]
def after(w:W)(ρ:RhoS):RhoS:=if lfW w=true then ρ else frz ρ
theorem SR.after(S:SR K H0 Fc F H σ ρ){d e:Hp}{w:W}{v:V}(s:Same (DL.borrow F H σ ρ) d)(R:ER K H0 Fc d e σ (view ρ))(q:RW K H0 d e w v):
  ∃g,Same F g/\SR K H0 Fc g e σ (DL.after w ρ)/\RW K H0 g e w v:=by
 unfold DL.after;by_cases f:lfW w=true
 ·rw[if_pos f];exact S.back s R q f
 ·rw[if_neg f];obtain⟨a,b⟩:=S.freeze s R
  exact⟨d,a,b,q⟩
def SR.bind(S:SR K H0 Fc F H σ ρ){i:Nat}{w:W}{v:V}(q:RW K H0 F H w v)(D:i<ρ.length)(E:∀l,w=.new l->∀a,v=.ref a -> ¬Owned σ ρ a):SR K H0 Fc F H (σ.set i (some v)) (ρ.set i (some w.b)):=by
 have u:i<σ.length:=by rw[S.len];exact D
 have z:(σ.set i (some v))[i]? = some (some v):=by rw[Yu u]
 have A:(ρ.set i (some w.b))[i]? = some (some w.b):=by rw[Yu D]
 have o:∀{j},j≠i->(σ.set i (some v))[j]? = σ[j]?:=λh=>Yi (Wn h)
 have p:∀{j},j≠i->(ρ.set i (some w.b))[j]? = ρ[j]?:=λh=>Yi (Wn h)
 refine⟨S.sub,S.same,S.base,S.new,λj d e=>?_,λj l e=>?_,λj k l m a g r s t=>?_,by rw[Wr,Wr];exact S.len⟩
 ·by_cases f:j=i
  ·subst f;rw[A] at e;refine⟨v,z,?_⟩
   cases w with
   |val C=>cases e;exact q
   |new l=>cases e
  ·rw[p f] at e;rw[o f];exact S.env j d e
 ·by_cases f:j=i
  ·subst f;rw[A] at e;cases w with
   |val C=>cases e
   |new B=>
    cases e;obtain⟨a,G,g,I,J,L,M⟩:=q
    subst g;exact⟨a,G,z,I,J,L,M⟩
  ·rw[p f] at e;rw[o f];exact S.own j l e
 ·by_cases f:j=i
  ·by_cases n:k=i
   ·rw[f,n]
   ·subst f;rw[A] at g;rw[z] at s;rw[p n] at r;rw[o n] at t;cases w with
    |val C=>cases g
    |new B=>cases s;exact absurd ⟨k,m,r,t⟩ (E B rfl a rfl)
  ·by_cases n:k=i
   ·subst n;rw[A] at r;rw[z] at t;rw[p f] at g;rw[o f] at s;cases w with
    |val C=>cases r
    |new B=>cases t;exact absurd ⟨j,l,g,s⟩ (E B rfl a rfl)
   ·rw[p f] at g;rw[o f] at s;rw[p n] at r;rw[o n] at t;exact S.dis j k l m a g r s t
def Owned.not_after(S:SR K H0 Fc F H σ ρ){g o:Hp}{w:W}{v:V}(s:Same (DL.borrow F H σ ρ) g)(q:RW K H0 g o w v):∀l,w=.new l->∀a,v=.ref a -> ¬Owned σ (DL.after w ρ) a:=λl e a ev z=>by
 subst e;obtain⟨b,u,j,p,_⟩:=q
 rw[ev] at j;cases j;obtain⟨i,m,d,t⟩:=z
 unfold DL.after at d;by_cases f:lfW (.new l)=true
 ·rw[if_pos f] at d;have n:Owned σ ρ a:=⟨i,m,d,t⟩;obtain⟨_,_,A,r⟩:=S.owned_none n
  have:=s a _ (by unfold DL.borrow;rw[if_pos n];exact r)
  rw[p] at this;cases this
 ·rw[if_neg f] at d;obtain⟨c,_,h⟩:=zmh d
  cases h
def SR.mut(S:SR K H0 Fc F H σ ρ){i:Nat}{l m:List D}{a:Addr}{g:List V}(h:ρ[i]? = some (some (.ow l)))(n:σ[i]? = some (some (.ref a)))(q:DenL K F m g):SR K H0 Fc F (upd H a (.lst g)) σ (ρ.set i (some (.ow m))):=by
 have w:Owned σ ρ a:=⟨i,l,h,n⟩;obtain⟨s,t,W,X⟩:=S.owned_none w
 have A:i<ρ.length:=(Zo.mp h).1;have u:(ρ.set i (some (.ow m)))[i]? = some (some (.ow m)):=by rw[Yu A]
 have r:∀{j},j≠i->(ρ.set i (some (.ow m)))[j]? = ρ[j]?:=λh=>Yi (Wn h)
 have v:∀{j:Nat}{k:List D},(ρ.set i (some (B.ow m)))[j]? = some (some (B.ow k))->∃C:List D,ρ[j]? = some (some (B.ow C)):=λ{j k} e=>by
  by_cases f:j=i
  ·subst f;exact⟨l,h⟩
  ·rw[r f] at e;exact⟨k,e⟩
 refine⟨λb o e=>?_,λb o e=>?_,S.base,S.new,λj d e=>?_,λj k e=>?_,λj k p Y b E G I J=>?_,by rw[Wr];exact S.len⟩
 ·rw[Bk (λz=>by subst z;rw[s] at e;cases e)];exact S.sub b o e
 ·rw[Bk (λz=>by subst z;rw[t] at e;cases e)];exact S.same b o e
 ·by_cases f:j=i
  ·subst f;rw[u] at e;cases e
  ·rw[r f] at e;exact S.env j d e
 ·by_cases f:j=i
  ·subst f;rw[u] at e;cases e;exact⟨a,g,n,s,t,Bm,q⟩
  ·rw[r f] at e;obtain⟨b,L,p,M,N,O,P⟩:=S.own j k e
   refine⟨b,L,p,M,N,?_,P⟩
   rw[Bk (λz=>by subst z;exact f (S.dis j i k l b e h p n))];exact O
 ·obtain⟨Q,R⟩:=v E
  obtain⟨T,U⟩:=v G
  exact S.dis j k Q T b R U I J
end
inductive Out where
 |nx (ρ:RhoS)|rt (w:W)
structure RT(H0 Fc F H:Hp):Prop where
 sub:Same F H
 same:Same H0 H
 base:Same Fc F
 new:∀a o,F a=some o->Fc a=some o\/H0 a=none
def tS(K:vE)(g h:Hp)(j:RhoS)(o:Out):TS:=λD l H=>∃F,SR K g h F H l j/\match o with
 |.nx i=>∀e d f,Same F f->SR K g h f d e i->D.nx e d
 |.rt w=>∀v d f,RT g h f d->RW K g f d w v->D.rt v d
def DS(X:Cx)(s:Stmt)(d:RhoS)(o:Out):Prop:=∀e f,PS X s (tS X.K e f d o)
def DSs(X:Cx)(s:List Stmt)(d:RhoS)(o:Out):Prop:=∀e f,PSs X s (tS X.K e f d o)
section
variable{X:Cx}{st:Stmt}{rest:List Stmt}{ρ ρ':RhoS}{o:Out}{w:W}{e:Expr}{pos:Pos}
def DSs.nil:DSs X [] ρ (.nx ρ):=λe f=>PSs.mono yji λD d H ⟨F,S,k⟩=>k d H F (Same.refl _) S
def DSs.next(g:DS X st ρ (.nx ρ'))(h:DSs X rest ρ' o):DSs X (st::rest) ρ o:=λe f=>PSs.mono (zab (g e f) (h e f)) λD t H ⟨F,S,k⟩=>
 ⟨F,S,λi u j l m=>⟨j,m,by
  cases o with
  |nx n=>exact λd p q r s=>k d p q (l.trans r) s
  |rt w=>exact k⟩⟩
def DSs.ret(d:DS X st ρ (.rt w)):DSs X (st::rest) ρ (.rt w):=λe f=>PSs.mono (zab (d e f) zir) λD g H ⟨F,S,k⟩=>⟨F,S,k⟩
def DS.asg{i:Nat}{x:Str}{d:Pos}(h:X.N.Nodup)(j:X.N[i]? = some x)(l:Loc X.env.scope x)(m:X.fn x=true\/X.env.scope.names.lookup x=some .local)(n:swapsWith e (some (.Name x d)) pos.line X.env=pure false)(o:i<ρ.length)
 (p:DE X e (view ρ) w):DS X (.Assign [.Name x d] e pos) ρ (.nx ((after w ρ).set i (some w.b))):=λr s=>PS.mono (zks h j l (p r s) n m) λD B H ⟨F,S,k⟩=>by
 obtain⟨C,R⟩:=S.borrow
 refine⟨_,R,λv t E f R2 q=>?_⟩
 obtain⟨u,z,g,A⟩:=S.after f R2 q
 refine k _ t u z (g.bind A ?_ (Owned.not_after S f q));rw[<-g.len,S.len];exact o
def DS.ret(d:DE X e (view ρ) w):DS X (.Return (some e) pos) ρ (.rt w):=λf g=>PS.mono (zwz (d f g)) λD j H ⟨F,S,k⟩=>by
 obtain⟨l,R⟩:=S.borrow
 exact⟨_,R,λv h i m R2 q=>k v h i ⟨R2.sub,R2.same,R2.base,R2.new⟩ q⟩
def DS.retOwn{i:Nat}{x:Str}{l:List D}{p:Pos}(e:X.N[i]? = some x)(f:Vis X.env.scope x)(g:(x == ("__debug__" : Str))=false)(d:(x == ("__classdict__" : Str))=false)(h:ρ[i]? = some (some (.ow l))):
  DS X (.Return (some (.Name x p)) pos) ρ (.rt (.new l)):=λr s=>PS.mono (zwz (zak e f g d)) λD t H ⟨F,S,k⟩=>by
 obtain⟨a,u,p,j,m,o,q⟩:=S.own i l h
 exact⟨_,p,k _ H F ⟨S.sub,S.same,S.base,S.new⟩ (RW.n j m o q)⟩
def SR.tested{K:vE}{H0 Fc F H:Hp}{σ:L2.St}(S:SR K H0 Fc F H σ ρ){e f:Hp}(s:Same (DL.borrow F H σ ρ) e)(R:ER K H0 Fc e f σ (view ρ)):∃d,Same F d/\SR K H0 Fc d f σ ρ:=by
 obtain⟨d,a,b,_⟩:=S.back (w:=.val .non) (v:=.non) s R (RW.v Den.non_mk) rfl
 exact⟨d,a,b⟩
def tS.pre{K:vE}{f h F i H j:Hp}{l:L2.St}{g:RhoS}{D:Ends}(s:Same F i)(m:SR K f h i j l g)
 (k:match o with|.nx ρ'=>∀σ' d e,Same F e->SR K f h e d σ' ρ'->D.nx σ' d|.rt w=>∀v d e,RT f h e d->RW K f e d w v->D.rt v d):tS K f h g o D l j:=⟨i,m,by
 cases o with
 |nx ρ'=>exact λσ' d e n p=>k σ' d e (s.trans n) p
 |rt w=>exact k⟩
def DS.ifT{c:Expr}{a b:List Stmt}(f:DT X c (view ρ) true)(g:DSs X a ρ o):DS X (.If c a b pos) ρ o:=λd e=>PS.mono (ps_if (f d e) (g d e) zir) λD l H ⟨F,S,k⟩=>by
 obtain⟨m,R⟩:=S.borrow
 refine⟨_,R,λn p h R2=>iteT ?_⟩
 obtain⟨q,i,j⟩:=S.tested h R2
 exact tS.pre (H:=H) i j k
def DS.ifF{c:Expr}{a b:List Stmt}(f:DT X c (view ρ) false)(g:DSs X b ρ o):DS X (.If c a b pos) ρ o:=λd e=>PS.mono (ps_if (f d e) zir (g d e)) λD l H ⟨F,S,k⟩=>by
 obtain⟨m,R⟩:=S.borrow
 refine⟨_,R,λn p h R2=>iteF ?_⟩
 obtain⟨q,i,j⟩:=S.tested h R2
 exact tS.pre (H:=H) i j k
def zaw(c:RhoS->Option Bool)(b:RhoS->Option Out):Nat->RhoS->Option Out
 |0,_=>none
 |n+1,ρ=>match c ρ with
  |none=>none
  |some false=>some (.nx ρ)
  |some true=>match b ρ with
   |none=>none
   |some (.rt w)=>some (.rt w)
   |some (.nx ρ')=>zaw c b n ρ'
def DS.while_{c:Expr}{d:List Stmt}{t:RhoS->Option Bool}{u:RhoS->Option Out}{n:Nat}(U:PassesOwn (model X.prog X.w) X.A X.env X.xe)(V:∀ρ k,t ρ=some k->DT X c (view ρ) k)(W:∀ρ o,u ρ=some o->DSs X d ρ o)
 (Y:zaw t u n ρ=some o):DS X (.While c d [] pos) ρ o:=λp r=>by
 have Z:PT X c (λl H Q=>∃ρ k,t ρ=some k/\tDT X.K p r (view ρ) k l H Q):=λpins s l H Q I ⟨ρ,k,h,q⟩=>V ρ k h p r pins s l H Q I q
 have pb:PSs X d (λD l H=>∃ρ o,u ρ=some o/\tS X.K p r ρ o D l H):=λpins s l H D I ⟨ρ,o,h,q⟩=>W ρ o h p r pins s l H D I q
 refine PS.mono (zrx U Z pb) λD l H ⟨F,S,k⟩=>?_;refine⟨λm f v=>∃ρ' j,Same F j/\SR X.K p r j v f ρ'/\zaw t u m ρ'=some o,⟨n,ρ,F,Same.refl _,S,Y⟩,?_⟩
 rintro m E H1 ⟨g,F1,N,O,i⟩
 cases m with
 |zero=>cases i
 |succ m=>
  unfold zaw at i;cases e:t g with
  |none=>rw[e] at i;cases i
  |some P=>
   rw[e] at i;obtain⟨s0,R⟩:=O.borrow
   refine⟨g,P,e,_,R,λH2 F2 s2 R2=>?_⟩
   obtain⟨G,T,J⟩:=O.tested s2 R2
   cases P with
   |false=>
    refine iteF ?_;cases i;exact k E H2 G (N.trans T) J
   |true=>
    refine iteT ?_;cases C:u g with
    |none=>simp only[C] at i;cases i
    |some o2=>
     simp only[C] at i;cases o2 with
     |rt w=>
      cases i;exact⟨λ_ _=>False,λ_ _ z=>z.elim,g,_,C,G,J,k⟩
     |nx B=>
      refine⟨λf v=>∃j,Same F j/\SR X.K p r j v f B,λf v ⟨j,L,M⟩=>⟨m,Wj _,B,j,L,M,i⟩,g,_,C,G,J,?_⟩
      exact λf v j L M=>⟨j,(N.trans T).trans L,M⟩
end
open PySem L2 PyProof.Rows
section
variable{K:vE}{H0 Fc F H:Hp}{σ:L2.St}{ρ:RhoS}
def SR.lay(S:SR K H0 Fc F H σ ρ){a:Addr}(o:HO)(g:H a=none):SR K H0 Fc (upd F a o) (upd H a o) σ ρ/\Same F (upd F a o):=by
 have m:F a=none:=by
  cases q:F a with
  |none=>rfl
  |some u=>rw[S.sub a u q] at g;cases g
 have n:H0 a=none:=S.same.free g;have h:=zbc (o:=o) m;refine⟨⟨λb u e=>?_,S.same.trans (zbc g),S.base.trans h,λb u e=>?_,λi d e=>?_,λi l e=>?_,S.dis,S.len⟩,h⟩
 ·by_cases f:b=a
  ·subst f;rw[Bm] at e |-;exact e
  ·rw[Bk f] at e |-;exact S.sub b u e
 ·by_cases f:b=a
  ·subst f;exact .inr n
  ·rw[Bk f] at e;exact S.new b u e
 ·obtain⟨v,r,s⟩:=S.env i d e
  exact⟨v,r,s.mono h⟩
 ·obtain⟨b,t,p,w,A,j,B⟩:=S.own i l e
  have f:b≠a:=λz=>by subst z;rw[j] at g;cases g
  exact⟨b,t,p,by rw[Bk f];exact w,A,by rw[Bk f];exact j,B.mono h⟩
def SR.frz1(S:SR K H0 Fc F H σ ρ){a:Addr}{g:List V}(j:F a=none)(m:H0 a=none)(n:H a=some (.lst g))(q:¬Owned σ ρ a):SR K H0 Fc (upd F a (.lst g)) H σ ρ/\Same F (upd F a (.lst g)):=by
 have h:=zbc (o:=.lst g) j;refine⟨⟨λb u e=>?_,S.same,S.base.trans h,λb u e=>?_,λi d e=>?_,λi l e=>?_,S.dis,S.len⟩,h⟩
 ·by_cases f:b=a
  ·subst f;rw[Bm] at e;cases e;exact n
  ·rw[Bk f] at e;exact S.sub b u e
 ·by_cases f:b=a
  ·subst f;exact .inr m
  ·rw[Bk f] at e;exact S.new b u e
 ·obtain⟨v,r,s⟩:=S.env i d e
  exact⟨v,r,s.mono h⟩
 ·obtain⟨b,t,p,w,A,B,C⟩:=S.own i l e
  have f:b≠a:=λz=>by subst z;exact q ⟨i,l,e,p⟩
  exact⟨b,t,p,by rw[Bk f];exact w,A,B,C.mono h⟩
def SR.afterF(S:SR K H0 Fc F H σ ρ){g h:Hp}{w:W}{v:V}(s:Same (DL.borrow F H σ ρ) g)(R:ER K H0 Fc g h σ (view ρ))(q:RW K H0 g h w v):
  ∃f,Same F f/\SR K H0 Fc f h σ (DL.after w ρ)/\Den K f w.d v:=by
 have o:=Owned.not_after S s q;obtain⟨f,i,j,m⟩:=S.after s R q
 cases w with
 |val d=>exact⟨f,i,j,m⟩
 |new l=>
  obtain⟨a,A,e,p,r,t,u⟩:=m
  subst e;obtain⟨z,n⟩:=j.frz1 p r t (o l rfl a rfl)
  exact⟨_,i.trans n,z,Den.lst_mk (SqL.of Bm) (u.mono n)⟩
end
def PG.mono{X:Cx}{f:Expr}{t g:TG}(h:PG X f t)(k:∀v d H Q,g v d H Q->t v d H Q):PG X f g:=λe s d H v u Q I r q=>h e s d H v u Q I r (k v d H Q q)
def PGs.mono{X:Cx}{f:List Expr}{t g:TGs}(h:PGs X f t)(k:∀v d H Q,g v d H Q->t v d H Q):PGs X f g:=λe s d H v u Q I r q=>h e s d H v u Q I r (k v d H Q q)
def PI.mono{X:Cx}{f g:Expr}{t i:TI}(h:PI X f g t)(k:∀d H R,i d H R->t d H R):PI X f g i:=λe s d H R I q=>h e s d H R I (k d H R q)
def DG(X:Cx)(i:Expr)(d:D)(j f:RhoS):Prop:=∀g h,PG X i (λv l H Q=>∃F,SR X.K g h F H l j/\Den X.K F d v/\∀e,SR X.K g h F H e f->Q e H)
def DGs(X:Cx)(h:List Expr)(i:List D)(j e:RhoS):Prop:=∀f g,PGs X h (λl m H Q=>∃F,SR X.K f g F H m j/\DenL X.K F i l/\∀d,SR X.K f g F H d e->Q d H)
section
variable{X:Cx}{st:Stmt}{rest:List Stmt}{ρ ρ' ρ2:RhoS}{o:Out}{w:W}{e t:Expr}{ts es:List Expr}{pos:Pos}{d:D}{ds:List D}
def SR.bindS{K:vE}{H0 Fc F H:Hp}{σ:L2.St}(S:SR K H0 Fc F H σ ρ){i:Nat}{v:V}(q:Den K F d v)(f:i<ρ.length):SR K H0 Fc F H (σ.set i (some v)) (ρ.set i (~~~d)):=
 S.bind (w:=.val d) (RW.v q) f λl e=>by cases e
def DG.name{i:Nat}{x:Str}(e:X.N.Nodup)(f:X.N[i]? = some x)(g:Loc X.env.scope x)(h:X.fn x=true\/X.env.scope.names.lookup x=some .local)(j:i<ρ.length):DG X (.Name x pos) d ρ (ρ.set i (~~~d)):=λl m=>
 PG.mono (zit e f g h) λv n H Q ⟨F,S,q,k⟩=>k _ (S.bindS q j)
def DGs.nil:DGs X [] [] ρ ρ:=λe f=>PGs.mono zqe λg d H Q ⟨F,S,q,k⟩=>⟨q.inv_nil,k d S⟩
def zbi{env:Env}(h:Bf t=true):assignEach (t::ts) env=(false,assign t env)::assignEach ts env:=by
 cases t<;>first|rfl|(cases h;done)
theorem zba{env:Env}:∀{ts:List Expr},ts.all Bf=true->(assignEach ts env).length=ts.length/\(assignEach ts env).findIdx? (·.1)=none
 |[],_=>⟨rfl,rfl⟩
 |t::ts,h=>by
  rw[Wz,Zj] at h;obtain⟨a,b⟩:=zba (env:=env) h.2
  rw[zbi h.1];refine⟨by rw[Zq,a,Zq],?_⟩
  rw[List.findIdx?_cons,b];rfl
def DGs.cons(h:DG X t d ρ ρ')(i:DGs X ts ds ρ' ρ2)(j:Bf t=true):DGs X (t::ts) (d::ds) ρ ρ2:=λf g=>
 PGs.mono (zho (h f g) (i f g) (by rw[zbi j];rfl)) λp s H Q ⟨F,S,q,k⟩=>by
  obtain⟨v,r,e,l,m⟩:=q.inv_cons
  exact⟨v,r,e,F,S,l,λn o=>⟨F,o,m,k⟩⟩
theorem DG.tup{k}(f:X.calm=true)(h:DGs X ts ds ρ ρ')(d:ts.all Bf=true)(g:ds.length=ts.length):DG X (.Tuple ts k pos) (.tup ds) ρ ρ':=λi j=>
 PG.mono (zxi (n:=ts.length) f (h i j) (zba d).1 (zba d).2) λv o H Q ⟨F,S,q,k⟩=>by
  obtain⟨a,l,e,m,r⟩:=q.tup
  exact⟨a,l,e,Same.tup S.sub m,by rw[r.length];exact g,F,S,r,k⟩
def DS.asgT(l:DE X e (view ρ) w)(m:DG X t w.d (after w ρ) ρ')(n:swapsWithSole [t] e pos.line X.env=pure false)(o:swappedStores [t] e X.env=pure none)(f:Bf t=true):DS X (.Assign [t] e pos) ρ (.nx ρ'):=λh i=>
 PS.mono (yfy (l h i) (m h i) n o (by rw[zbi f];rfl)) λD B H ⟨F,S,k⟩=>by
  obtain⟨C,R⟩:=S.borrow
  refine⟨_,R,λv p E r R2 q=>?_⟩
  obtain⟨j,s,u,z⟩:=S.afterF r R2 q
  exact⟨j,u,z,λg A=>k g p j s A⟩
def ykt{K:vE}{E G F H:Hp}{g:L2.St}(S:SR K E G F H g ρ){j J:Hp}{u:List V}(s:Same (DL.borrow F H g ρ) j)(R:ER K E G j J g (view ρ))(q:DenL K j ds u)(f:lfL ds=true):
  ∃w,Same F w/\SR K E G w J g ρ/\DenL K w ds u:=by
 induction ds generalizing u with
 |nil=>
  obtain⟨w,a,b⟩:=S.tested s R
  rw[q.inv_nil];exact⟨w,a,b,DenL.nil⟩
 |cons d ds Q=>
  classical
  have key:∀(d:D) (v:V),lf d=true->Den K j d v->Den K (λa=>if Owned g ρ a then none else j a) d v:=λd v f q=>by
   have A:∀a m,SqT K j a m->SqT K (λa=>if Owned g ρ a then none else j a) a m:=λa m h=>by
    rcases h with h|h
    ·refine .inl ?_;have n:¬Owned g ρ a:=λz=>by
      obtain⟨_,_,T,r⟩:=S.owned_none z
      have e:=s a _ (by unfold DL.borrow;rw[if_pos z];exact r);rcases h with h|⟨o,h⟩
      ·rw[e] at h;cases h
      ·rw[e] at h;cases h
     rcases h with h|⟨o,h⟩
     ·exact .inl (by show(if Owned g ρ a then none else j a)=_;rw[if_neg n];exact h)
     ·exact .inr ⟨o,by show(if Owned g ρ a then none else j a)=_;rw[if_neg n];exact h⟩
    ·exact .inr h
   exact Den.shrink A d f q
  have B:∀(l:List D) (m:List V),lfL l=true->DenL K j l m->DenL K (λa=>if Owned g ρ a then none else j a) l m:=λl=>by
   induction l with
   |nil=>intro m _ q;rw[q.inv_nil];exact DenL.nil
   |cons d l I=>
    intro m f q;simp only[lfL,Zj] at f;obtain⟨v,u,e,L,M⟩:=q.inv_cons
    subst e;exact DenL.cons (key d v f.1 L) (I u f.2 M)
  have C:Same F (λa=>if Owned g ρ a then none else j a):=λa o e=>by
   have n:¬Owned g ρ a:=λz=>by rw[(S.owned_none z).1] at e;cases e
   show(if Owned g ρ a then none else j a)=some o;rw[if_neg n];exact s a o (S.borrow.1 a o e)
  have t:∀a o,(if Owned g ρ a then none else j a)=some o->j a=some o:=λa o e=>by
   by_cases n:Owned g ρ a
   ·rw[if_pos n] at e;cases e
   ·rw[if_neg n] at e;exact e
  refine⟨_,C,⟨λa o e=>R.sub a o (t a o e),R.same,S.base.trans C,λa o e=>R.new a o (t a o e),λi d e=>?_,λi l e=>?_,S.dis,S.len⟩,B _ _ f q⟩
  ·obtain⟨v,p,q⟩:=S.env i d e
   exact⟨v,p,q.mono C⟩
  ·obtain⟨a,m,p,U,N,O,P⟩:=S.own i l e
   have n:Owned g ρ a:=⟨i,l,e,p⟩;refine⟨a,m,p,if_pos n,N,?_,P.mono C⟩
   exact R.sub _ _ (s a _ (by unfold DL.borrow;rw[if_pos n];exact O))
def DS.par{i j:Nat}{x y:Str}{a b:Expr}{l m n:Pos}{o p d}{d1 d2:D}(r:X.calm=true)(s:X.N.Nodup)(t:X.N[i]? = some x)(w:X.N[j]? = some y)(f:i≠j)
 (z:X.env.scope.names.lookup x=some .local)(A:X.env.scope.names.lookup y=some .local)(B:DA X [a,b] (view ρ) [d1,d2])(g:i<ρ.length)(h:j<ρ.length)(C:lf d1=true)(E:lf d2=true)
 (G:swappedStores [.Tuple [.Name x l,.Name y m] o n] (.Tuple [a,b] p d) X.env=pure (some [x,y])):
  DS X (.Assign [.Tuple [.Name x l,.Name y m] o n] (.Tuple [a,b] p d) pos) ρ (.nx ((ρ.set i (~~~d1)).set j (~~~d2))):=λI J=>
 PS.mono (ps_par r s t w f z A (B I J) G (by rfl)) λD V H ⟨F,S,k⟩=>by
  obtain⟨W,R⟩:=S.borrow
  refine⟨_,R,λY K Z L R2 q=>?_⟩
  obtain⟨M,O,P,Q⟩:=ykt S L R2 q (by simp[lfL,C,E])
  obtain⟨v,u,e,T,U⟩:=Q.two
  refine⟨v,u,e,k _ K M O ((P.bindS T g).bindS U (by rw[Wr];exact h))⟩
def Yields(K:vE)(F H:Hp)(d:D)(x:V)(e:Hp):Prop:=(e=H/\Den K F d x)\/∃p f ds,H p=none/\e=upd H p (.tup f)/\x=.ref p/\d=.tup ds/\DenL K F ds f
def Walks(K:vE)(F:Hp)(J:It)(e:List D):Prop:=∀i H,Same F H->(∀d,e[i]? = some d->J.go i H/\∀x f,J.yld i H x f->Yields K F H d x f)/\(e.length<=i->J.stop i H)
def DI(X:Cx)(l e:Expr)(ρ:RhoS)(d:List D)(ρ':RhoS):Prop:=∀g h,PI X l e (λi H R=>∃F,SR X.K g h F H i ρ/\∀J j f,Same F f->SR X.K g h f j i ρ'->Walks X.K f J d->R J j)
def forN(f:D->RhoS->Option RhoS)(b:RhoS->Option Out):List D->RhoS->Option Out
 |[],ρ=>some (.nx ρ)
 |d::l,ρ=>match f d ρ with
  |none=>none
  |some e=>match b e with
   |none=>none
   |some (.rt w)=>some (.rt w)
   |some (.nx ρ2)=>forN f b l ρ2
def DS.for_{tg n:Expr}{t:List Stmt}{P:D->RhoS->Option RhoS}{R:RhoS->Option Out}{f:List D}(hp:PassesOwn (model X.prog X.w) X.A X.env X.xe)(hc:X.calm=true)(hi:DI X tg n ρ f ρ')
 (hg:∀d ρ ρ',P d ρ=some ρ'->DG X tg d ρ ρ')(hb:∀ρ o,R ρ=some o->DSs X t ρ o)(hw:forN P R f ρ'=some o)(hs:∀x,foldedSetIterable n X.env x=pure x):DS X (.For tg n t [] pos) ρ o:=λC E=>by
 have pg:PG X tg (λv L H Q=>∃d ρ ρ',P d ρ=some ρ'/\∃F,SR X.K C E F H L ρ/\Den X.K F d v/\∀g,SR X.K C E F H g ρ'->Q g H):=λpins s L H v u Q I r ⟨d,ρ,ρ',h,q⟩=>hg d ρ ρ' h C E pins s L H v u Q I r q
 have pb:PSs X t (λD L H=>∃ρ o,R ρ=some o/\tS X.K C E ρ o D L H):=λpins s L H D I ⟨ρ,o,h,q⟩=>hb ρ o h C E pins s L H D I q
 refine PS.mono (zxa hp hc (hi C E) pg pb hs) λD L H ⟨F,S,k⟩=>⟨F,S,λJ H1 F1 s1 S1 wk=>?_⟩
 refine⟨λi m g j=>m=f.length-i/\i<=f.length/\∃ρ2 O,Same F1 O/\SR X.K C E O j g ρ2/\forN P R (f.drop i) ρ2=some o,⟨_,rfl,Yz _,ρ',F1,Same.refl _,S1,hw⟩,?_⟩
 rintro i m T H2 ⟨rfl,a1,ρ2,O,U,S2,l⟩
 have V:=wk i H2 (U.trans S2.sub);by_cases N:i<f.length
 ·have hd:f[i]? = some f[i]:=Zh N;rw[K8 N] at l;obtain⟨go,yl⟩:=V.1 _ hd
  unfold forN at l;cases e1:P f[i] ρ2 with
  |none=>rw[e1] at l;cases l
  |some B=>
   simp only[e1] at l;cases e2:R B with
   |none=>simp only[e2] at l;cases l
   |some o2=>
    simp only[e2] at l;have M:∀x j,J.yld i H2 x j->∃G,Same O G/\SR X.K C E G j T ρ2/\Den X.K G f[i] x:=λx j y=>by
     rcases yl x j y with⟨e,q⟩|⟨p,xs,ds,hp,e,ex,ed,q⟩
     ·subst e;exact⟨O,Same.refl _,S2,q.mono U⟩
     ·subst e ex;obtain⟨W,Y⟩:=S2.lay (.tup xs) hp
      refine⟨_,Y,W,?_⟩
      rw[ed];exact Den.tup_mk (SqT.of Bm) ((q.mono U).mono Y)
    cases o2 with
    |rt w=>
     cases l;refine .inr ⟨go,λ_ _=>False,λ_ _ z=>z.elim,λx j y=>?_⟩;obtain⟨G,Y,W,q3⟩:=M x j y
     exact⟨_,ρ2,B,e1,G,W,q3,λg Z=>⟨B,_,e2,G,Z,k⟩⟩
    |nx a0=>
     refine .inr ⟨go,λg j=>∃F',Same F1 F'/\SR X.K C E F' j g a0,λg j ⟨F',s',Z⟩=>⟨f.length-(i+1),by omega,rfl,N,a0,F',s',Z,l⟩,λx j y=>?_⟩;obtain⟨G,Y,W,q3⟩:=M x j y
     exact⟨_,ρ2,B,e1,G,W,q3,λg Z=>⟨B,_,e2,G,Z,λa2 H5 F5 s5 S5=>⟨F5,(U.trans Y).trans s5,S5⟩⟩⟩
 ·have e:i=f.length:=by omega
  subst e;rw[G9] at l;cases l;refine .inl ⟨V.2 (Zk _),?_⟩;exact k T H2 O (s1.trans U) S2
def DI.list{p:Expr}{l:List D}(s:DE X e (view ρ) w)(t:w.d=.lst l):DI X p e ρ l (after w ρ):=λu z=>PI.mono (zqd (s u z)) λO H R ⟨F,S,k⟩=>by
 obtain⟨P,A⟩:=S.borrow
 refine⟨_,A,λv B Q C R2 q=>?_⟩
 obtain⟨E,G,m,n⟩:=S.afterF C R2 q
 rw[t] at n;obtain⟨a,f,I,g,r⟩:=n.lst
 refine⟨a,I,⟨f,m.sub.seq g⟩,k _ B E G m λi T h=>⟨λd J=>?_,λj=>⟨f,h.seq g,by rw[r.length];exact j⟩⟩⟩
 obtain⟨y,o,K⟩:=r.get J
 refine⟨⟨f,y,h.seq g,o⟩,λx L ⟨M,N⟩=>?_⟩
 have:=N f (h.seq g)
 rw[o] at this;cases this;exact .inl ⟨M,K⟩
theorem DI.tup{p:Expr}{l:List D}(s:DE X e (view ρ) w)(t:w.d=.tup l):DI X p e ρ l (after w ρ):=λu z=>PI.mono (zxg (s u z)) λO H R ⟨F,S,k⟩=>by
 obtain⟨P,A⟩:=S.borrow
 refine⟨_,A,λv B Q C R2 q=>?_⟩
 obtain⟨E,G,m,n⟩:=S.afterF C R2 q
 rw[t] at n;obtain⟨a,f,I,g,r⟩:=n.tup
 refine⟨a,I,⟨f,Same.tup m.sub g⟩,k _ B E G m λi T h=>⟨λd J=>?_,λj=>⟨f,Same.tup h g,by rw[r.length];exact j⟩⟩⟩
 obtain⟨y,o,K⟩:=r.get J
 refine⟨⟨f,y,Same.tup h g,o⟩,λx L ⟨M,N⟩=>?_⟩
 have:=N f (Same.tup h g)
 rw[o] at this;cases this;exact .inl ⟨M,K⟩
def B8(d:Int)(n:Nat):List D:=(List.range n).map λ(i:Nat)=>D.int (d+(i:Int))
def zci{K:vE}{F:Hp}{h:Int}{n:Nat}:Walks K F (Itr h n) (B8 h n):=λi H m=>by
 unfold B8;refine⟨λd e=>?_,λf=>?_⟩
 ·rw[Zi] at e;by_cases g:i<n
  ·rw[Ky g] at e;cases e;exact⟨g,λx o ⟨j,l⟩=>.inl ⟨j,by rw[l];exact Den.int_mk⟩⟩
  ·rw[Yp (by rw[Z8];omega)] at e;cases e
 ·rw[Zd,Z8] at f;exact f
def DI.range1{d a:Expr}{p:Pos}{n:Int}(f:Gl X "range")(g:X.mg "range" = none)(h:DA X [a] (view ρ) [.int n])(i:Bf a=true)(j : -(2^62)<=n)(l:n<2^62):DI X d (.Call (.Name "range" p) [a] [] pos) ρ (B8 0 n.toNat) ρ:=λm o=>
 PI.mono (zis f g (h m o) (Bl i)) λA H R ⟨F,S,k⟩=>by
  obtain⟨B,r⟩:=S.borrow
  refine⟨_,r,λC s D t R2 q=>?_⟩
  obtain⟨u,w,z⟩:=S.tested t R2
  obtain⟨v,e,q⟩:=q.one
  rw[q.int] at e;exact⟨n,e,j,l,k _ s u w z zci⟩
def DI.range2{f a b:Expr}{p:Pos}{m n:Int}(g:Gl X "range")(i:X.mg "range" = none)(j:DA X [a,b] (view ρ) [.int m,.int n])(l:Bf a=true)(d:Bf b=true)(h : -(2^62)<=m/\m<2^62 /\ -(2^62)<=n/\n<2^62):
  DI X f (.Call (.Name "range" p) [a,b] [] pos) ρ (B8 m (n-m).toNat) ρ:=λo r=>
 PI.mono (zny g i (j o r) (by rw[Bl l,Bl d];rfl) (by rw[Bl d];rfl)) λE H R ⟨F,S,k⟩=>by
  obtain⟨G,s⟩:=S.borrow
  refine⟨_,s,λI t J w R2 q=>?_⟩
  obtain⟨z,A,B⟩:=S.tested w R2
  obtain⟨v,u,e,C,D⟩:=q.two
  rw[C.int,D.int] at e;exact⟨m,n,e,h,k _ t z A B zci⟩
end
open PySem L2 PyProof.Rows
def Inv.turned2{X:Cx}{pins:List (Addr×Obj)}{σ:L2.St}{H:Hp}{s:Shared}{t:Heap}{e j p:Addr}{o:HO}{L:Nat}(I:Inv X pins σ H s)(M:FpOk X pins H e)(A:FpOk X pins H j)
 (k:∀b d,b≠e->b≠j->s.heap.get? b=some d->t.get? b=some d)(D:s.heap.objs.size<=p)(B:ObjOk X.prog X.w (upd H p o) t p o):Inv X pins σ (upd H p o) {s with heap:=t,toks:=L}:=by
 obtain⟨E,F,W,N,O,P⟩:=M
 obtain⟨G,J,Y,Q,R,S⟩:=A
 have f:∀{b:Addr},b∉[e,j]->b≠e/\b≠j:=λh=>by simpa using h
 have C:∀{b:Addr}{d:Obj},s.heap.get? b=some d->b≠p:=λh z=>by
  have:=Zm h
  subst z;exact absurd (Zf this D) (Wm _)
 have i:∀{b:Addr}{u:HO},H b=some u->b≠p:=λh z=>by
  subst z;rw[I.hok.fresh D] at h;cases h
 refine I.step (g':=s.gens) (d':=s.drawn) (ch:=[e,j]) (λb l=>?_) (λb d _ _ g q _=>k b d (f g).1 (f g).2 q) (λb d _ _ g q _=>⟨d.slots,k b d (f g).1 (f g).2 q⟩)
  (λb d g q n=>by rw[Bk (C q)];exact n) (λb d g q=>⟨d,k b d (f g).1 (f g).2 q⟩) (λb K q=>by rw[Bk (i q)];exact q) (λb d K q=>by rw[Bk (i q)];exact q)
  (λb Z q=>⟨#[],by rw[Bk (i q),q];simp⟩) (λm T=>?_) (λb u q=>?_) I.bare
 ·rcases Zg.mp l with z|z
  ·subst z;exact⟨N,F,O,P⟩
  ·have z:=Zs.mp z;subst z;exact⟨Q,J,R,S⟩
 ·obtain⟨d,U,V,q,r⟩:=T
  exact⟨d,U,V,k _ d (Wn F) (Wn J) q,r⟩
 ·by_cases l:b=p
  ·subst l;rw[Bm] at q;cases q;exact B
  ·rw[Bk l] at q;refine(I.hok b u q).stay (λc v g z=>k c v ?_ ?_ z) (λc z=>by rw[Bk (i z)];exact z) λc K z=>by rw[Bk (i z)];exact z
   ·rintro rfl
    rcases g with z|z
    ·subst z;rw[E] at q;cases q
    ·rw[E] at z;cases z
   ·rintro rfl
    rcases g with z|z
    ·subst z;rw[G] at q;cases q
    ·rw[G] at z;cases z
def Ite(K:vE)(a:Addr):It:=
 ⟨λi H=>∃d x,SqL K H a d/\d[i]? = some x,λi H x e=>∃p y,H p=none/\x=.ref p/\e=upd H p (.tup [.int (i:Int),y])/\∀d,SqL K H a d->d[i]? = some y,λi H=>∃d,SqL K H a d/\d.length<=i⟩
def zvv{P:Program}{w:World}{K:vE}{B:List Expr}{x1}{tp:Pos}(a e g:Addr)(C:e≠g):Turn P w K (.Tuple B x1 tp) (Ite K a) [e,g] e (λi h=>(∃f,IsEnum h e g (i:Int) f)/\h.IsListIter g a i) where
 mem:=by simp
 obj:=λi h j b t=>by
  obtain⟨⟨f,J⟩,m⟩:=j
  rcases Zg.mp t with z|z
  ·subst z;exact⟨_,J,λv z=>by cases z⟩
  ·have z:=Zs.mp z;subst z;obtain⟨o,e,c,d⟩:=m
   exact⟨o,e,λv z=>by rw[d] at z;cases z⟩
 keep:=λi h h' j k=>by
  obtain⟨⟨f,J⟩,m⟩:=j
  exact⟨⟨f,k e vC _ J⟩,m.at λo q=>k g vC o q⟩
 item:=by
  intro X N O Q hc i n s σ H E I D j R;subst N O Q;obtain⟨⟨f,A⟩,l⟩:=j
  obtain⟨xs,x,L,S⟩:=R
  obtain⟨T,U,p,hz⟩:=I.list L
  obtain⟨u,hu,ru⟩:=U.get S
  refine wpAny_pyNext_enum_item A l p.isList (x:=u) (by simpa using hu) C λJ V F Y a4 Z=>⟨_,rfl,?_⟩
  refine wpAny_letOwnedTupleGo_enum V λm a0 r=>?_;have G:e<s.heap.objs.size:=Zm A;have a1:g<s.heap.objs.size:=by obtain⟨o,q,_⟩:=id l;exact Zm q
  have a2:m.get? s.heap.objs.size=some {cls:=.type "tuple",data:=.seq #[.int i s.toks,u]}:=(r.2 _ (Z3 G)).trans Y;have a3:∀b M,b≠e->b≠g->s.heap.get? b=some M->m.get? b=some M:=λb M n1 n2 q=>(r.2 b n1).trans (Z b M n1 n2 q)
  have I2:Inv X n σ (upd H s.heap.objs.size (.tup [.int (i:Int),x])) {s with heap:=m,toks:=s.toks+1}:=by
   refine Inv.turned2 I (D e vC) (D g vC) a3 (Zk _) ?_;exact⟨by show 2<=sizeLine;decide,[.int i s.toks,u],.cons ⟨_,rfl⟩ #v[ru],⟨_,a2,rfl,_,rfl⟩⟩
  refine⟨.ref s.heap.objs.size,_,I2,rfl,⟨_,x,I.hok.fresh (Zk _),rfl,rfl,λys hy=>by rw[I.list_inj hy L];exact S⟩,⟨⟨u,?_⟩,?_⟩,λb t=>?_⟩
  ·have:((i+1:Nat):Int)=(i:Int)+1:=by push_cast;rfl
   show IsEnum m e g ((i+1:Nat):Int) u;rw[this];exact a0
  ·exact F.at λo q=>(r.2 g (Wn C)).trans q
  ·rw[Bk]
   ·exact(D b t).1
   ·rcases Zg.mp t with z|z
    ·subst z;exact Yc G
    ·have z:=Zs.mp z;subst z;exact Yc a1
 done:=by
  intro X N O Q hc i n s σ H E I D j R;subst N O Q;obtain⟨⟨f,A⟩,l⟩:=j
  obtain⟨xs,L,S⟩:=R
  obtain⟨T,U,p,hz⟩:=I.list L
  obtain⟨f0,f1,f2,f3,f4,f5⟩:=D g vC
  have hl:=U.length;exact wpAny_pyNext_enum_end (I.ok.hd hc) A l p.isList (by simp;omega) λh' eb=>⟨rfl,I.turned (t':=s.toks) (λb o t e=>eb b o t e) f0 f1 f3 f4 f5⟩
 self:=λ_ _ _ _ _ j h=>by
  obtain⟨⟨f,A⟩,_⟩:=j
  exact wpAny_pyIter_enum A h
def zkf:bootBuiltins "enumerate" = some (.type "enumerate"):=by decide +kernel
section
variable{X:Cx}{elts:List Expr}{x1:Nat}{tp:Pos}
def iEnum(K:vE)(e:TA):TI:=λf H R=>e f H λg d=>∃a,g=[.ref a]/\(∃h,SqL K d a h)/\R (Ite K a) d
def zxh{a:Expr}{m:TA}{p pos:Pos}(v:Gl X "enumerate")(w:X.mg "enumerate" = none)(A:PA X [a] m)(B:starEach [a] X.env=[(false,eval a X.env)]):PI X (.Tuple elts x1 tp) (.Call (.Name "enumerate" p) [a] [] pos) (iEnum X.K m):=by
 intro d s n H R I h;refine Call_ (zef I v w zkf (Ys (thn (A pos d s n H _ I h) λO f ⟨P,o,i,C,D⟩=>?_) B rfl));obtain⟨l,e,⟨Q,E⟩,q⟩:=D
 subst e;obtain⟨u,e,r⟩:=zia C
 subst e;cases r;obtain⟨F,S,p,T⟩:=i.list E
 refine call_enumerate_list p.isList λG t j J L=>?_;have M:Inv X d n o {f with heap:=G}:=i.kept (t':=f.toks) L;refine wpAny_pyIter_enum t ⟨_,[f.heap.objs.size+1,f.heap.objs.size],_,_,o,rfl,M,zvv l _ _ (Ux _),⟨⟨_,t⟩,j⟩,λb N=>?_,q⟩;have g:f.heap.objs.size<=b:=by
  rcases Zg.mp N with z|z
  ·rw[z];exact Jg _
  ·rw[Zs.mp z];exact Zk _
 exact i.fpOk g (i.hok.fresh g)
end
open PySem L2 PyProof.Rows
section
variable{prog:Program}{w:World}{A:Around}{E:Value->Shared->Prop}{h:Heap}{g:Array GenState}{d:Drawn}{t:Nat}{os:OsState}{a C:Addr}{o:Obj}{vs:Array Value}{K:vE}
end
open PySem L2 PyProof.Rows
section
variable{P:Program}{w:World}{H H':Hp}{h h':Heap}{a:Addr}{o:HO}
end
section
variable{fs:List Addr}{H H':Hp}{h0 h h1 B h':Heap}
end
def CX1(P:Program)(w:World):CXT:=λd H s E e f=>∃(i C:Addr) (j:Value) (B:Heap) (g:Hp),e=.ref i/\f.os=s.os/\AllBare f.gens/\Un (frs d) [] H g s.heap f.heap/\HOk P w g f.heap /\
 Heap.FlyingW B d i (.ref C) j f.heap/\(∀b o,s.heap.get? b=some o->b∉frs d->∃h,B.get? b=some h)/\(∀b u,g b=some u->∃h,B.get? b=some h)/\E (.ref C) none g
section
variable{X:Cx}{pins:List (Addr×Obj)}{σ:L2.St}{H:Hp}{s:Shared}{E:XK}{E':Value->Shared->Prop}
end
open PySem L2 PyProof.Rows
section
variable{X:Cx}{pins:List (Addr×Obj)}{σ:L2.St}{H:Hp}{s:Shared}{E:XK}{E':Value->Shared->Prop}
end
open PySem L2 PyProof.Rows
abbrev zvm:List Str:=["FitError","NoNumber","NoShape","NoSize"]
def subX(x y:Str):Bool:=decide (x=y) || decide (y=("FitError" : Str)) || decide (y=("ValueError" : Str))
def spR(K:vE)(n:Nat)(g:∅):Sp:=λh H Q E=>∃F d x C,Same F H/\DenL K F d h/\d.length=n/\g d=some (.val (.exc x))/\PySem.W.nsIn K mainGlobals x=some (some (.ref C)) /\
 ∀e f,Same H e->Same F f->Same f e->(∀a o,f a=some o->F a=some o\/H a=none)->E (.ref C) none e
def yns(X:Cx)(x:Str)(n:Nat)(e:∅):Prop:=∃(k:Nat) (f:Addr) (d:FuncData) (ps:List Str),
 FnOk X.prog X.w X.K X.mg X.base (CX1 X.prog X.w) k f d ps (spR X.K n e)/\Room k X.A/\X.mg x=some (.ref f)/\PySem.W.keepIn X.K (.ref f)=true/\Binds X.K d ps []
section
variable{X:Cx}{pins:List (Addr×Obj)}{σ:L2.St}{H:Hp}{s:Shared}{E':Value->Shared->Prop}{e:Expr}{es:List Expr}{pos:Pos}
end
section
variable{X:Cx}{e:Expr}{es:List Expr}{ρ:RhoS}{pos:Pos}{ds:List D}
end
open PySem L2 PyProof.Rows
def isX(d:List Str):D->Option Bool
 |.exc x=>if x∈zvm then some (d.any (subX x)) else none
 |.non=>some false
 |_=>none
section
variable{X:Cx}{a e:Expr}{ρ:Rho}{pos:Pos}
end
open PySem L2 PyProof.Rows
section
variable{X:Cx}{pins:List (Addr×Obj)}{σ:L2.St}{H:Hp}{s:Shared}
end
open PySem L2 PyProof.Rows
mutual
def toP:D->PyData
 |.non=>.none
 |.bl b=>.bool b
 |.int i=>.int i
 |.tup l=>.tuple (toPs l)
 |.lst l=>.list (toPs l)
 |.exc _=>.none
 |.obj _ _=>.none
def toPs:List D->List PyData
 |[]=>[]
 |d::l=>toP d::toPs l
end
mutual
def dOk:Nat->D->Bool
 |_,.non=>true
 |_,.bl _=>true
 |_,.int _=>true
 |0,.tup _=>false
 |n+1,.tup l=>dOkL n l
 |0,.lst _=>false
 |n+1,.lst l=>dOkL n l
 |_,.exc _=>false
 |_,.obj _ _=>false
def dOkL:Nat->List D->Bool
 |_,[]=>true
 |n,d::l=>dOk n d && dOkL n l
end
mutual
def eqD:D->D->Bool
 |.non,.non=>true
 |.bl a,.bl b=>a == b
 |.bl a,.int j=>(if a then 1 else 0) == j
 |.int i,.bl b=>i == (if b then 1 else 0)
 |.int i,.int j=>i == j
 |.tup l,.tup m=>eqL l m
 |.lst l,.lst m=>eqL l m
 |_,_=>false
def eqL:List D->List D->Bool
 |[],[]=>true
 |d::l,e::m=>eqD d e && eqL l m
 |_,_=>false
end
mutual
theorem zqv:∀(n m:Nat) (d e:D),dOk n d=true->dOk m e=true->PyData.eqv (toP d) (toP e)=eqD d e
 |n,m,.tup l,.tup k,f,g=>by
  cases n with
  |zero=>simp only[dOk] at f;cases f
  |succ n=>
   cases m with
   |zero=>simp only[dOk] at g;cases g
   |succ m=>
    simp only[dOk] at f g;simp only[toP,PyData.eqv,eqD];exact eqv_L n m l k f g
 |n,m,.lst l,.lst k,f,g=>by
  cases n with
  |zero=>simp only[dOk] at f;cases f
  |succ n=>
   cases m with
   |zero=>simp only[dOk] at g;cases g
   |succ m=>
    simp only[dOk] at f g;simp only[toP,PyData.eqv,eqD];exact eqv_L n m l k f g
 |n,m,.exc _,_,f,_=>by simp only[dOk] at f;cases f
 |n,m,d,.exc _,_,g=>by simp only[dOk] at g;cases g
 |n,m,.obj _ _,_,f,_=>by simp only[dOk] at f;cases f
 |n,m,d,.obj _ _,_,g=>by simp only[dOk] at g;cases g
 |n,m,.non,.non,_,_=>by simp only[toP,PyData.eqv,eqD]
 |n,m,.non,.bl _,_,_=>by simp only[toP,PyData.eqv,eqD]
 |n,m,.non,.int _,_,_=>by simp only[toP,PyData.eqv,eqD]
 |n,m,.non,.tup _,_,_=>by simp only[toP,PyData.eqv,eqD]
 |n,m,.non,.lst _,_,_=>by simp only[toP,PyData.eqv,eqD]
 |n,m,.bl _,.non,_,_=>by simp only[toP,PyData.eqv,eqD]
 |n,m,.bl _,.bl _,_,_=>by simp only[toP,PyData.eqv,eqD]
 |n,m,.bl _,.int _,_,_=>by simp only[toP,PyData.eqv,eqD]
 |n,m,.bl _,.tup _,_,_=>by simp only[toP,PyData.eqv,eqD]
 |n,m,.bl _,.lst _,_,_=>by simp only[toP,PyData.eqv,eqD]
 |n,m,.int _,.non,_,_=>by simp only[toP,PyData.eqv,eqD]
 |n,m,.int _,.bl _,_,_=>by simp only[toP,PyData.eqv,eqD]
 |n,m,.int _,.int _,_,_=>by simp only[toP,PyData.eqv,eqD]
 |n,m,.int _,.tup _,_,_=>by simp only[toP,PyData.eqv,eqD]
 |n,m,.int _,.lst _,_,_=>by simp only[toP,PyData.eqv,eqD]
 |n,m,.tup _,.non,_,_=>by simp only[toP,PyData.eqv,eqD]
 |n,m,.tup _,.bl _,_,_=>by simp only[toP,PyData.eqv,eqD]
 |n,m,.tup _,.int _,_,_=>by simp only[toP,PyData.eqv,eqD]
 |n,m,.tup _,.lst _,_,_=>by simp only[toP,PyData.eqv,eqD]
 |n,m,.lst _,.non,_,_=>by simp only[toP,PyData.eqv,eqD]
 |n,m,.lst _,.bl _,_,_=>by simp only[toP,PyData.eqv,eqD]
 |n,m,.lst _,.int _,_,_=>by simp only[toP,PyData.eqv,eqD]
 |n,m,.lst _,.tup _,_,_=>by simp only[toP,PyData.eqv,eqD]
theorem eqv_L:∀(n m:Nat) (l k:List D),dOkL n l=true->dOkL m k=true->PyData.eqvAll (toPs l) (toPs k)=eqL l k
 |n,m,[],[],_,_=>by simp only[toPs,PyData.eqvAll,eqL]
 |n,m,d::l,e::k,f,g=>by
  simp only[dOkL,Zj] at f g;simp only[toPs,PyData.eqvAll,eqL];rw[zqv n m d e f.1 g.1,eqv_L n m l k f.2 g.2]
 |n,m,[],_::_,_,_=>by simp only[toPs,PyData.eqvAll,eqL]
 |n,m,_::_,[],_,_=>by simp only[toPs,PyData.eqvAll,eqL]
end
mutual
theorem zup:∀(n:Nat) (d:D),dOk n d=true->(toP d).canLay0=true/\(toP d).depth<=n
 |_,.non,_=>by simp[toP,PyData.canLay0,PyData.depth]
 |_,.bl _,_=>by simp[toP,PyData.canLay0,PyData.depth]
 |_,.int _,_=>by simp[toP,PyData.canLay0,PyData.depth]
 |0,.tup _,h=>by simp only[dOk] at h;cases h
 |n+1,.tup l,h=>by
  simp only[dOk] at h;obtain⟨a,b⟩:=lay_L n l h
  simp only[toP,PyData.canLay0,PyData.depth];exact⟨a,by omega⟩
 |0,.lst _,h=>by simp only[dOk] at h;cases h
 |n+1,.lst l,h=>by
  simp only[dOk] at h;obtain⟨a,b⟩:=lay_L n l h
  simp only[toP,PyData.canLay0,PyData.depth];exact⟨a,by omega⟩
 |_,.exc _,h=>by simp only[dOk] at h;cases h
 |_,.obj _ _,h=>by simp only[dOk] at h;cases h
theorem lay_L:∀(n:Nat) (l:List D),dOkL n l=true->PyData.canLayAll0 (toPs l)=true/\PyData.depthAll (toPs l)<=n
 |_,[],_=>by simp[toPs,PyData.canLayAll0,PyData.depthAll]
 |n,d::l,h=>by
  simp only[dOkL,Zj] at h;obtain⟨a,b⟩:=zup n d h.1
  obtain⟨c,e⟩:=lay_L n l h.2
  simp only[toPs,PyData.canLayAll0,PyData.depthAll,Zj];exact⟨⟨a,c⟩,by omega⟩
end
section
variable{X:Cx}{pins:List (Addr×Obj)}{σ:L2.St}{H F:Hp}{s:Shared}
mutual
theorem zbw(I:Inv X pins σ H s)(g:Same F H):∀(n:Nat) (d:D){v:V}{u:Value},dOk n d=true->Den X.K F d v->RelV v u->∃j,Reads s.heap u (toP d) j
 |_,.non,v,u,_,h,r=>by rw[h.non] at r;cases(show u=Value.none from r);exact⟨_,.none⟩
 |_,.bl b,v,u,_,h,r=>by rw[h.bl] at r;cases(show u=Value.bool b from r);exact⟨_,.bool b⟩
 |_,.int i,v,u,_,h,r=>by
  rw[h.int] at r;obtain⟨t,e⟩:=(show ∃t,u=Value.int i t from r)
  subst e;exact⟨_,.int i t⟩
 |0,.tup _,_,_,h,_,_=>by simp only[dOk] at h;cases h
 |n+1,.tup l,v,u,f,h,r=>by
  simp only[dOk] at f;obtain⟨a,E,e,m,q⟩:=h.tup
  subst e;cases(show u=Value.ref a from r)
  obtain⟨p,w,⟨o,z,A,k,B⟩,_⟩:=I.tuple (Same.tup g m)
  obtain⟨j,C⟩:=reads_L I g n l f q w
  exact⟨_,.tuple z A B (by simpa using C)⟩
 |0,.lst _,_,_,h,_,_=>by simp only[dOk] at h;cases h
 |n+1,.lst l,v,u,f,h,r=>by
  simp only[dOk] at f;obtain⟨a,E,e,m,q⟩:=h.lst
  subst e;cases(show u=Value.ref a from r)
  obtain⟨p,w,⟨o,k,z,A,B⟩,_⟩:=I.list (g.seq m)
  obtain⟨j,C⟩:=reads_L I g n l f q w
  exact⟨_,.list z A B.2 (by simpa using C)⟩
 |_,.exc _,_,_,h,_,_=>by simp only[dOk] at h;cases h
 |_,.obj _ _,_,_,h,_,_=>by simp only[dOk] at h;cases h
theorem reads_L(I:Inv X pins σ H s)(j:Same F H):∀(n:Nat) (l:List D){f:List V}{g:List Value},dOkL n l=true->DenL X.K F l f->Vals f g->∃m,ReadsAll s.heap g (toPs l) m
 |_,[],f,g,_,h,r=>by
  rw[h.inv_nil] at r;cases r;exact⟨_,.nil⟩
 |n,d::l,f,g,i,h,r=>by
  simp only[dOkL,Zj] at i;obtain⟨v,z,e,o,p⟩:=h.inv_cons
  subst e;cases r with
  |cons q t=>
   obtain⟨m,u⟩:=zbw I j n d i.1 o q
   obtain⟨A,w⟩:=reads_L I j n l i.2 p t
   exact⟨_,.cons u w⟩
end
end
section
variable{X:Cx}
def zhn{d:D}(h:dOk 50 d=true):SeqAt.shaped (toP d)=true:=by
 obtain⟨a,b⟩:=zup 50 d h
 unfold SeqAt.shaped;rw[a,Bool.true_and];exact decide_eq_true vB
def ycf(K:vE)(x y:D)(k:Bool):R2:=λv u H Q=>∃F,Same F H/\Den K F x v/\Den K F y u/\Q (.bl k) H
def zzm{x y:D}(g:X.A.units+64<cLine)(d:dOk 50 x=true)(e:dOk 50 y=true):zcy X .Eq x y (eqD x y):=by
 refine⟨ycf X.K x y (eqD x y),?_,λH F v u Q s h i q=>⟨F,s,h,i,q⟩⟩
 intro pins s r H v u t w Q I j l ⟨F,f,m,n,q⟩;obtain⟨z,o⟩:=zbw I f 50 x d m j
 obtain⟨B,p⟩:=zbw I f 50 y e n l
 refine eq_dataH o p (zhn d) (zhn e) g ?_;rw[zqv 50 50 x y d e];exact⟨.bl _,H,I,rfl,q⟩
def zzl{x y:D}(g:X.A.units+64<cLine)(d:dOk 50 x=true)(e:dOk 50 y=true):zcy X .NotEq x y (!eqD x y):=by
 refine⟨ycf X.K x y (!eqD x y),?_,λH F v u Q s h i q=>⟨F,s,h,i,q⟩⟩
 intro pins s r H v u t w Q I j l ⟨F,f,m,n,q⟩;obtain⟨z,o⟩:=zbw I f 50 x d m j
 obtain⟨B,p⟩:=zbw I f 50 y e n l
 refine ne_dataH o p (zhn d) (zhn e) g ?_;rw[zqv 50 50 x y d e];exact⟨.bl _,H,I,rfl,q⟩
theorem ynn{x:D}(e:dOk 50 x=true):∀(l:List D),dOkL 49 l=true->((toPs l).any λy=>PyData.eqv y (toP x))=l.any λy=>eqD y x
 |[],_=>rfl
 |d::l,h=>by
  simp only[dOkL,Zj] at h;simp only[toPs,List.any_cons];rw[zqv 49 50 d x h.1 e,ynn e l h.2]
def ymq{x:D}{l:List D}(t:X.A.units+64<cLine)(d:dOk 50 x=true)(e:dOkL 49 l=true):zcy X .In x (.lst l) (l.any λy=>eqD y x):=by
 refine⟨ycf X.K x (.lst l) _,?_,λH F v u Q s h i q=>⟨F,s,h,i,q⟩⟩
 intro pins s w H v u z B Q I j m ⟨F,f,n,o,q⟩;obtain⟨C,p⟩:=zbw I f 50 x d n j
 obtain⟨E,g⟩:=zbw I f 50 (.lst l) (by simp only[dOk];exact e) o m
 simp only[toP] at g;obtain⟨a,b⟩:=zup 50 x d
 obtain⟨r,G⟩:=lay_L 49 l e
 refine SeqAt.in_list_reads g p r a (by have:=Nat.min_le_right (PyData.depthAll (toPs l)) (toP x).depth;omega) ?_;rw[ynn d l e];exact⟨.bl _,H,I,rfl,q⟩
def yel{x:D}{l:List D}(t:X.A.units+64<cLine)(d:dOk 50 x=true)(e:dOkL 49 l=true):zcy X .NotIn x (.lst l) (!(l.any λy=>eqD y x)):=by
 refine⟨ycf X.K x (.lst l) _,?_,λH F v u Q s h i q=>⟨F,s,h,i,q⟩⟩
 intro pins s w H v u z B Q I j m ⟨F,f,n,o,q⟩;obtain⟨C,p⟩:=zbw I f 50 x d n j
 obtain⟨E,g⟩:=zbw I f 50 (.lst l) (by simp only[dOk];exact e) o m
 simp only[toP] at g;obtain⟨a,b⟩:=zup 50 x d
 obtain⟨r,G⟩:=lay_L 49 l e
 refine SeqAt.notIn_list_reads g p r a (by have:=Nat.min_le_right (PyData.depthAll (toPs l)) (toP x).depth;omega) ?_;rw[ynn d l e];exact⟨.bl _,H,I,rfl,q⟩
end
open PySem L2 PyProof.Rows
def cloF(d:List (Str×Addr)):List (Str×NameKind)->List (Str×Addr)->List (Str×Addr)
 |[],e=>e
 |(n,k)::r,e=>cloF d r (if (k == NameKind.free)=true then(n,(d.lookup n).getD 0)::e else e)
def yha{scope:Scope}{env:Env}(h:∀y∈scope.names,y.2=.free->∃c,env.cells.lookup y.1=some c):closureFor scope env=pure (cloF env.cells scope.names []):=by
 have key:∀(l:List (Str×NameKind)) (d:List (Str×Addr)),(∀y∈l,y.2=.free->∃c,env.cells.lookup y.1=some c) ->
   (forIn l d (λx d=>if (x.2 == NameKind.free)=true then do let a <-cellOf env x.1;pure (ForInStep.yield ((x.1,a)::d)) else pure (ForInStep.yield d)):Sem (List (Str×Addr)))=pure (cloF env.cells l d):=by
  intro l;induction l with
  |nil=>intro d _;rfl
  |cons y l j=>
   intro d h;rw[Kz];obtain⟨n,k⟩:=y
   have g:=λd=>j d λz m=>h z (Yv _ m)
   by_cases e:(k == NameKind.free)=true
   ·obtain⟨c,i⟩:=h (n,k) Wi (by cases k<;>first|rfl|cases e)
    have f:cellOf env n=pure c:=by unfold cellOf;rw[i]
    simp only[e,if_true,f,pure_bind];rw[g];simp only[cloF,e,if_true,i,Je]
   ·simp only[e,if_false,pure_bind,Y4];rw[g];simp only[cloF,e,if_false,Y4]
 unfold closureFor;have:=key scope.names [] h
 simp only[bind_pure];first|exact this|(refine Eq.trans ?_ this;rfl)|(simp at this |-;exact this)
theorem zhw{d:List (Str×Addr)}:∀(l:List (Str×NameKind)) (f:List (Str×Addr)),(∀y∈l,y.2=.free->∃c,d.lookup y.1=some c)->(∀p∈f,d.lookup p.1=some p.2)->∀p∈cloF d l f,d.lookup p.1=some p.2
 |[],f,_,h,p,g=>h p g
 |(n,k)::r,f,j,h,p,g=>by
  unfold cloF at g;refine zhw r _ (λz m=>j z (Yv _ m)) (λq i=>?_) p g;by_cases e:(k == NameKind.free)=true
  ·rw[if_pos e] at i;rcases Zg.mp i with z|z
   ·subst z;obtain⟨c,o⟩:=j (n,k) Wi (by cases k<;>first|rfl|cases e)
    simp only[o,Je]
   ·exact h q z
  ·rw[if_neg e] at i;exact h q i
theorem zov{d:List (Str×Addr)}:∀(l:List (Str×NameKind)) (f:List (Str×Addr)) (p:Str×Addr),p∈f->p∈cloF d l f
 |[],_,_,h=>h
 |(n,k)::r,f,p,h=>by
  unfold cloF;refine zov r _ p ?_;by_cases e:(k == NameKind.free)=true
  ·rw[if_pos e];exact Yv _ h
  ·rw[if_neg e];exact h
theorem zmo{d:List (Str×Addr)}:∀(l:List (Str×NameKind)) (e:List (Str×Addr)) (x:Str),(x,NameKind.free)∈l->∃c,(x,c)∈cloF d l e
 |(n,k)::r,e,x,h=>by
  unfold cloF;rcases Zg.mp h with z|z
  ·cases z;have f:(NameKind.free == NameKind.free)=true:=rfl;simp only[f,if_true];exact⟨_,zov r _ _ Wi⟩
  ·exact zmo r _ x z
theorem zbl{d:Type}:∀{l:List (Str×d)}{x:Str}{c:d},l.lookup x=some c->(x,c)∈l
 |[],_,_,h=>by cases h
 |(n,a)::r,x,c,h=>by
  rw[Ql] at h;cases q:(x == n) with
  |true=>rw[q] at h;cases h;rw[eq_of_beq q];exact Wi
  |false=>rw[q] at h;exact Yv _ (zbl h)
theorem zga{d:Type}:∀{l:List (Str×d)}{x:Str}{c:d},(x,c)∈l->∃e,l.lookup x=some e
 |(n,a)::r,x,c,h=>by
  rw[Ql];cases q:(x == n) with
  |true=>exact⟨_,rfl⟩
  |false=>
   rcases Zg.mp h with z|z
   ·cases z;rw[beq_self_eq_true] at q;cases q
   ·exact zga z
open PySem L2 PyProof.Rows
def zec{scope:Scope}{env:Env}{x:Str}:(relabel scope env).names.lookup x=(scope.names.lookup x).map λk=>if (k == NameKind.free && env.scope.kind == .function && env.kindOf x == some .cell)=true then NameKind.cell else k:=by
 unfold relabel;simp only
 generalize scope.names=l;induction l with
 |nil=>rfl
 |cons y l e=>
  obtain⟨n,k⟩:=y
  rw[Zz];by_cases d:(k == NameKind.free && env.scope.kind == .function && env.kindOf n == some .cell)=true
  ·simp only[d,if_true];rw[Ql,Ql];cases q:(x == n) with
   |true=>have:=eq_of_beq q;subst this;simp only[Y7];rw[if_pos d]
   |false=>simpa using e
  ·simp only[d];rw[if_neg vC,Ql,Ql];cases q:(x == n) with
   |true=>have:=eq_of_beq q;subst this;simp only[Y7];rw[if_neg d]
   |false=>simpa using e
def blk(X:Cx)(scope:Scope)(d:List (Str×Addr))(C:Addr)(N':List Str)(s₀:Shared)(H₀:Hp)(ex:List Addr):Cx:=
 {X with N:=N',s₀:=s₀,H₀:=H₀,env:=compEnvC scope d C X.env,outer:=X.stack,stack:=X.stack,ex:=ex,fn:=λ_=>false,pn:=[],xe:=λ_ _=>False}
section
variable{X:Cx}{pins:List (Addr×Obj)}{σ:L2.St}{H:Hp}{s:Shared}{scope:Scope}{C:Addr}{N':List Str}{fp:List Addr}
def blk_ok(I:Inv X pins σ H s)(r:scope.kind=.function)(f:∀y∈scope.names,y.2 ≠ .cell)(g:∀y∈scope.names,y.2=.free->∃c,X.env.cells.lookup y.1=some c)
 (n:s.heap.objs.size<=C)(d:∀b∈fp,FpOk X pins H b)(m:∀b∈fp,∃o,s.heap.get? b=some o):(blk X scope (cloF X.env.cells scope.names []) C N' s H fp).Ok:=by
 have i:∀{x c},(cloF X.env.cells scope.names []).lookup x=some c->X.env.cells.lookup x=some c:=λh=>zhw scope.names [] g (λp t=>nomatch t) _ (zbl h)
 refine⟨I.ok.mod,r,I.ok.glob,I.ok.blt,n,λx y c u v=>I.ok.inj x y c (i u) (i v),λx h=>?_,λx c h=>absurd h (by simp[blk]),I.ok.hd,I.ok.frames,.inl rfl,λb j=>?_,I.bs,Wd I.ok.bsz I.sz,λb o e j=>?_,λb j z=>?_,I.stack,I.stkFree⟩
 ·have l:(relabel scope X.env).names.lookup x=some .cell\/(relabel scope X.env).names.lookup x=some .free:=h;rw[zec] at l;have:scope.names.lookup x=some .free:=by
   cases q:scope.names.lookup x with
   |none=>rw[q] at l;rcases l with z|z<;>cases z
   |some k=>
    rw[q] at l;have w:=zbl q;cases k with
    |free=>rfl
    |cell=>exact absurd rfl (f _ w)
    |_=>rcases l with z|z<;>simp at z
  obtain⟨c,A⟩:=zmo scope.names [] x (zbl this)
  exact zga A
 ·obtain⟨o,e⟩:=m b j
  refine⟨?_,λx c h=>(d b j).2.2.2.2.1 x c (i h)⟩
  exact Yc (Zf (Zm e) n)
 ·rcases(d b j).2.2.2.1 with z|z
  ·exact I.ok.noex b o e z
  ·exact absurd (Zf (Zm e) (Wd I.ok.bsz z)) (Wm _)
 ·rcases Zg.mp (I.stkSub b z) with e|e
  ·exact(d b j).2.1 e
  ·exact(d b j).2.2.1 e
def yne{s':Shared}{t:Heap}{t':Nat}{σ':L2.St}(I:Inv X pins σ H s)(O:scope.kind=.function)(l:∀y∈scope.names,y.2 ≠ .cell)(d:∀y∈scope.names,y.2=.free->∃c,X.env.cells.lookup y.1=some c)
 (L:C=s.heap.objs.size)(w:∀b∈fp,FpOk X pins H b)(A:∀b∈fp,∃o,s.heap.get? b=some o){m:Str->Option Value}(B:t.Ns C m)(f:∀b o,s.heap.get? b=some o->t.get? b=some o)
 (P:σ'.length=N'.length)
 (Q:∀(i:Nat) (x:Str) (v:V),N'[i]? = some x->σ'[i]? = some (some v)->scope.names.lookup x=some .free/\X.env.kindOf x=some .cell/\∃j:Nat,X.N[j]? = some x/\σ[j]? = some (some v)):
  Inv (blk X scope (cloF X.env.cells scope.names []) C N' s H fp) [] σ' H {s with heap:=t,toks:=t'}:=by
 have n:∀{x c},(cloF X.env.cells scope.names []).lookup x=some c->X.env.cells.lookup x=some c:=λh=>zhw scope.names [] d (λp D=>nomatch D) _ (zbl h)
 refine⟨blk_ok I O l d (V4 L.symm) w A,rfl,I.bare,Un.kept f,⟨m,B,λi x v R S Z=>?_⟩,λx c e=>?_,?_,λx c e=>I.freeC x c (n e),λp D=>?_,I.hok.kept f,P⟩
 ·obtain⟨M,E,j,T,U⟩:=Q i x v R S
  obtain⟨m0,W,F⟩:=I.loc
  obtain⟨u,r,lk⟩:=F j x v T U (.inr (.inl E))
  refine⟨u,r,.inr ⟨.inl ?_,?_⟩⟩
  ·show(relabel scope X.env).names.lookup x=some .cell;rw[zec,M];have:(X.env.scope.kind == ScopeKind.function)=true:=by rw[I.ok.kind];rfl
   simp[this,E]
  ·rcases lk with⟨z,_⟩|⟨_,c,Y,g⟩
   ·rw[E] at z;cases z
   ·obtain⟨c',G⟩:=zmo scope.names [] x (zbl M)
    obtain⟨c2,q⟩:=zga G
    have:=n q
    rw[Y] at this;cases this;obtain⟨o,J,K⟩:=g
    exact⟨c,q,o,f _ _ J,K⟩
 ·obtain⟨v,o,J,K⟩:=I.cell x c (n e)
  exact⟨v,o,f _ _ J,K⟩
 ·show H C=none;rw[L];exact I.hok.fresh (Zk _)
 ·exact nomatch D
def ynf{h:List (Str×Addr)}{σ':L2.St}{f:Hp}{g:Shared}{pl:List (Addr×Obj)}(I:Inv X pins σ H s)(d:∀b∈fp,FpOk X pins H b)(J:Inv (blk X scope h C N' s H fp) pl σ' f g):Inv X pins σ f g:=
 I.call' (ch:=fp) J.os J.base J.hok J.bare λb e=>⟨(d b e).2.2.2.1,(d b e).2.1,(d b e).2.2.2.2.1,(d b e).2.2.2.2.2⟩
end
open PySem L2 PyProof.Rows
section
variable{K:vE}{H0 Fc F H:Hp}{σ:L2.St}{ρ:Rho}
def ER.mutF(R:ER K H0 Fc F H σ ρ){a:Addr}{o:HO}(d:F a=none)(f:H0 a=none):ER K H0 Fc F (upd H a o) σ ρ:=
 ⟨λb u e=>by rw[Bk (λz=>by subst z;rw[d] at e;cases e)];exact R.sub b u e,λb u e=>by rw[Bk (λz=>by subst z;rw[f] at e;cases e)];exact R.same b u e,R.base,R.new,R.env⟩
def ER.here(R:ER K H0 Fc F H σ ρ):ER K H F F H σ ρ:=⟨R.sub,Same.refl _,Same.refl _,λa o e=>.inl e,R.env⟩
def ER.there{g h:Hp}{σ':L2.St}{d:Rho}(R:ER K H0 Fc F H σ ρ)(f:ER K H F g h σ' d):ER K H0 Fc g h σ' d:=
 ⟨f.sub,R.same.trans f.same,R.base.trans f.base,λa o e=>(f.new a o e).elim (R.new a o) λz=>.inr (R.same.free z),f.env⟩
def ER.fewer{f:Rho}(R:ER K H0 Fc F H σ ρ)(h:∀(i:Nat) d,f[i]? = some (some d)->ρ[i]? = some (some d)):ER K H0 Fc F H σ f:=⟨R.sub,R.same,R.base,R.new,λi d e=>R.env i d (h i d e)⟩
end
def DIe(X:Cx)(m e:Expr)(g:Rho)(d:List D):Prop:=∀h i,PI X m e (λj H R=>∃F,ER X.K h i F H j g/\∀J l f,Same F f->ER X.K h i f l j g->Walks X.K f J d->R J l)
def DGe(X:Cx)(j:Expr)(d:D)(l f:Rho):Prop:=∀g h,PG X j (λv i H Q=>i.length=X.N.length/\∃F,ER X.K g h F H i l/\Den X.K F d v/\∀e,e.length=X.N.length->ER X.K g h F H e f->Q e H)
def zcg(f:D->Option (Option D)):List D->Option (List D)
 |[]=>some []
 |d::l=>match f d with
  |none=>none
  |some none=>zcg f l
  |some (some e)=>(zcg f l).map λr=>e::r
def DTs(X:Cx)(d:List Expr)(e:Rho)(k:Bool):Prop:=(d=[]/\k=true)\/∃c,d=[c]/\DT X c e k
section
variable{X:Cx}{pins:List (Addr×Obj)}{σ:L2.St}{H1:Hp}{s2:Shared}{tg elt iter:Expr}{ifs:List Expr}{scope:Scope}{pos:Pos}{fp:List Addr}{it:Addr}{tn:Nat->Heap->Prop}{J:It}{N':List Str}{items res:List D}{f:D->Option (Option D)}{ρ0:Rho}
def CInv(X:Cx)(scope:Scope)(C:Addr)(N':List Str)(l:Shared)(H1:Hp)(D:Addr)(fp:List Addr)(tn:Nat->Heap->Prop)(items:List DL.D)(m o p:Hp)(ρ0:Rho)(f:DL.D->Option (Option DL.D))(res:List DL.D)(n:Nat)(h:Shared):Prop:=
 ∃i d e g j done rest,Inv (blk X scope (cloF X.env.cells scope.names []) C N' l (upd H1 D (.lst [])) fp) [] d e h/\tn i h.heap/\(∀b∈fp,e b=none)/\n=items.length+1-i/\i<=items.length /\
   ER X.K m o g e d ρ0/\Same p g/\g D=none/\e D=some (.lst j)/\DenL X.K g done j/\zcg f (items.drop i)=some rest/\done++rest=res/\done.length<=i
def zzj{Z Fc F1:Hp}{ρ:Rho}{σ':L2.St}{RR:Value->Addr->Result->Shared->Prop}{E:Value->Shared->Prop}(I:Inv X pins σ H1 s2)(a0:X.calm=true)(T:Turn X.prog X.w X.K tg J fp it tn)(h0:tn 0 s2.heap)(aj:∀b∈fp,FpOk X pins H1 b)
 (hk:scope.kind=.function)(aI:∀y∈scope.names,y.2 ≠ .cell)(ak:∀y∈scope.names,y.2=.free->∃c,X.env.cells.lookup y.1=some c)
 (R1:ER X.K Z Fc F1 H1 σ ρ)(hl:σ'.length=N'.length)(b0:∀(i:Nat) d,ρ0[i]? = some (some d)->∃v,σ'[i]? = some (some v)/\Den X.K F1 d v)
 (hv:∀(i:Nat) (x:Str) (v:V),N'[i]? = some x->σ'[i]? = some (some v)->scope.names.lookup x=some .free/\X.env.kindOf x=some .cell/\∃j:Nat,X.N[j]? = some x/\σ[j]? = some (some v))
 (wk:Walks X.K F1 J items)(b1:items.length<=sizeLine)(as:zcg f items=some res)
 (au:∀(C:Addr) (s₀:Shared) (H₀:Hp) (d:D) (o:Option D),d∈items->f d=some o->∃G,DGe (blk X scope (cloF X.env.cells scope.names []) C N' s₀ H₀ fp) tg d ρ0 G/\(∀(i:Nat) d,ρ0[i]? = some (some d)->G[i]? = some (some d)) /\
   (match o with|none=>DTs (blk X scope (cloF X.env.cells scope.names []) C N' s₀ H₀ fp) ifs G false|some e=>DTs (blk X scope (cloF X.env.cells scope.names []) C N' s₀ H₀ fp) ifs G true/\DF (blk X scope (cloF X.env.cells scope.names []) C N' s₀ H₀ fp) elt G e))
 (av:∀(D C:Addr) (s5:Shared) (H' F':Hp) (ys:List V) (m:Str->Option Value),Inv X pins σ H' s5->s5.heap.Ns C m->H' C=none->C≠X.env.locals->X.s₀.heap.objs.size<=C->(∀x c,X.env.cells.lookup x=some c->c≠C)->(∀p∈X.pn++pins,p.1≠C) ->
   Same F1 F'->ER X.K Z Fc F' H' σ ρ->F' D=none->Z D=none->H' D=some (.lst ys)->DenL X.K F' res ys->RR (.ref D) C (.ok .next) s5)
 {D C:Addr}{O:Shared}{h4:Heap}{tk:Nat}(I3:Inv X pins σ (upd H1 D (.lst [])) O)(aJ:∀b∈fp,∃o,O.heap.get? b=some o)(ae:∀b∈fp,FpOk X pins (upd H1 D (.lst [])) b)(hC:O.heap.objs.size=C)(J4:Inv (blk X scope (cloF X.env.cells scope.names []) C N' O (upd H1 D (.lst [])) fp) [] σ' (upd H1 D (.lst [])) {O with heap:=h4,toks:=tk})(aK:tn 0 h4)
 (CX:C≠X.env.locals/\X.s₀.heap.objs.size<=C/\(∀x c,X.env.cells.lookup x=some c->c≠C)/\(∀p∈X.pn++pins,p.1≠C))(R4:ER X.K Z Fc F1 (upd H1 D (.lst [])) σ' ρ0)(aL:F1 D=none)(aw:Z D=none):
  codeAny (model X.prog X.w) X.A (.compLoop (.ListComp elt [⟨tg,iter,ifs,0⟩] scope pos) 0 (.ref it) (.ref D) (compEnvC scope (cloF X.env.cells scope.names []) C X.env)) (RR (.ref D) C) {O with heap:=h4,toks:=tk}:=by
 refine codeAny_loop rfl (CInv X scope C N' O H1 D fp tn items Z Fc F1 ρ0 f res) ?_ (items.length+1)
  ⟨0,σ',_,F1,[],[],res,J4,aK,λb W=>(ae b W).1,rfl,Yz _,R4,Same.refl _,aL,Bm,DenL.nil,as,rfl,Yz _⟩
 rintro n s5 ⟨i,a7,Ha,Fa,ys,done,rest,J5,ax,ay,rfl,hi,R5,P,a1,a8,a9,H,aa,b2⟩
 show wpAny _ X.A ((compTurn (.ListComp elt [⟨tg,iter,ifs,0⟩] scope pos) 0 (.ref it) (.ref D) (compEnvC scope (cloF X.env.cells scope.names []) C X.env)).onRaise (λx=>do noteFrame x (compEnvC scope (cloF X.env.cells scope.names []) C X.env);theTreesLotGoes x)) _ _ s5;refine wpAny_noted ?_;rw[compTurn_list];have fx:∀{Hx:Hp},(∀b∈fp,Hx b=none)->∀b∈fp,FpOk (blk X scope (cloF X.env.cells scope.names []) C N' O (upd H1 D (.lst [])) fp) [] Hx b:=λhn b W=>by
  refine⟨hn b W,?_,?_,.inl W,?_,λp hp=>nomatch hp⟩
  ·obtain⟨o,e⟩:=aJ b W
   show b≠C;rw[<-hC];exact Yc (Zm e)
  ·intro z;rcases Zg.mp (I.stkSub b z) with e|e
   ·exact(aj b W).2.1 e
   ·exact(aj b W).2.2.1 e
  ·intro x c h;exact(aj b W).2.2.2.2.1 x c (zhw scope.names [] ak (λp hp=>nomatch hp) _ (zbl h))
 have ff:∀{α:Type}{t:Sem α}{Q:α->Shared->Prop}{E':Value->Shared->Prop}{s:Shared},wpAny (model X.prog X.w) X.A t Q (λ_ _=>False) s->wpAny (model X.prog X.w) X.A t Q E' s:=λh=>Ua h (λ_ _ q=>q) λ_ _ z=>z.elim
 have az:=wk i Ha (P.trans R5.sub);refine Zc (Ut (Zc ?_));by_cases ab:i<items.length
 ·have hd:items[i]? = some items[i]:=Zh ab;rw[K8 ab] at H;obtain⟨go,yl⟩:=az.1 _ hd
  refine ff (thn (T.item (blk X scope (cloF X.env.cells scope.names []) C N' O (upd H1 D (.lst [])) fp) rfl rfl rfl a0 i [] s5 a7 Ha (λ_ _=>False) J5 (fx ay) ax go) λr s6 ⟨u,hr,h6⟩=>?_);subst hr;refine Zc (ff (thn h6 λ_ s7 ⟨x,H7,J7,r7,y7,am,aM⟩=>?_));obtain⟨R,ac,R7,q7,aA,aB⟩:∃R,Same Fa R/\ER X.K Z Fc R H7 a7 ρ0/\Den X.K R items[i] x/\H7 D=some (.lst ys)/\R D=none:=by
   rcases yl x H7 y7 with⟨e,q⟩|⟨p,xs,ds,hp,e,ex,ed,q⟩
   ·subst e;exact⟨Fa,Same.refl _,R5,q.mono P,a8,a1⟩
   ·subst e ex;obtain⟨R8,s8⟩:=R5.lay (.tup xs) hp
    have aC:D≠p:=λz=>by subst z;rw[a8] at hp;cases hp
    refine⟨_,s8,R8,?_,by rw[Bk aC];exact a8,by rw[Bk aC];exact a1⟩
    rw[ed];exact Den.tup_mk (SqT.of Bm) ((q.mono P).mono s8)
  have J8:=J7.pinned (fx aM) (T.obj _ _ am);have aD:∀{s9:Shared}{B:L2.St}{S F9:Hp}{zs:List V}{more left:List DL.D},Inv (blk X scope (cloF X.env.cells scope.names []) C N' O (upd H1 D (.lst [])) fp) ([]++zkt fp s7.heap) B S s9->ER X.K Z Fc F9 S B ρ0->Same F1 F9->F9 D=none->S D=some (.lst zs)->DenL X.K F9 more zs ->
    zcg f (items.drop (i+1))=some left->more++left=res->more.length<=i+1 ->
    ∃m,m<items.length+1-i/\CInv X scope C N' O H1 D fp tn items Z Fc F1 ρ0 f res m s9:=by
   intro s9 B S F9 zs more left J9 R9 aN aO aP aQ aR aS aT;refine⟨items.length+1-(i+1),by omega,i+1,B,S,F9,zs,more,left,J9.unpinned,?_,λb W=>?_,rfl,ab,R9,aN,aO,aP,aQ,aR,aS,aT⟩
   ·exact T.keep _ _ _ am λb W o e=>(J9.pin (b,o) (Yj _ (Yj _ (zds W e)))).1
   ·obtain⟨o,e,_⟩:=T.obj _ _ am b W
    exact(J9.pin (b,o) (Yj _ (Yj _ (zds W e)))).2.1
  unfold zcg at H;cases hf:f items[i] with
  |none=>rw[hf] at H;cases H
  |some o=>
   rw[hf] at H;obtain⟨G,hG,af,hO⟩:=au C O (upd H1 D (.lst [])) items[i] o (Ka ab) hf
   refine Zc (ff (thn (hG Z Fc _ s7 a7 H7 x u (λB S=>S=H7/\ER X.K Z Fc R H7 B G) J8 r7 ⟨J7.len,R,R7,q7,λB b3 R9=>⟨rfl,R9⟩⟩) λ_ s8 ⟨B,S,J9,e9,R9⟩=>?_));subst e9;have a2:∀k,DTs (blk X scope (cloF X.env.cells scope.names []) C N' O (upd H1 D (.lst [])) fp) ifs G k ->
     wpAny (model X.prog X.w) X.A (forIn ifs true λc r=>if r=true then do let ok <-isTrue c (compEnvC scope (cloF X.env.cells scope.names []) C X.env) (eval c (compEnvC scope (cloF X.env.cells scope.names []) C X.env));pure (ForInStep.yield ok) else pure (ForInStep.yield r))
      (λok s'=>ok=k/\∃l g,Inv (blk X scope (cloF X.env.cells scope.names []) C N' O (upd H1 D (.lst [])) fp) ([]++zkt fp s7.heap) B l s'/\Same R g/\ER X.K S R g l B G) (λ_ _=>False) s8:=by
    intro k hk;rcases hk with⟨e1,e2⟩|⟨c,e1,hT⟩
    ·subst e1 e2;exact wpAny_tests_nil ⟨rfl,S,R,J9,Same.refl _,R9.here⟩
    ·subst e1;refine wpAny_tests_one (thn (hT S R _ s8 B S (λb l=>b=k/\∃g,Same R g/\ER X.K S R g l B G) J9 ⟨R,R9.here,λl g L F=>⟨rfl,g,L,F⟩⟩) λb s' ⟨l,a3,aU,g,L,F⟩=>⟨aU,l,g,a3,L,F⟩)
   have a4:∀{g l:Hp}{σ':L2.St}{aE:Rho},ER X.K S R g l σ' aE->l D=some (.lst ys)/\g D=none:=λ{g l σ' aE} F=>by
    refine⟨F.same D _ aA,?_⟩
    cases z:g D with
    |none=>rfl
    |some o=>
     rcases F.new D o z with w|w
     ·rw[aB] at w;cases w
     ·rw[aA] at w;cases w
   cases o with
   |none=>
    refine Zc (ff (thn (a2 false hO) λok s9 ⟨an,l,g,a3,L,F⟩=>?_));subst an;obtain⟨U,a5⟩:=a4 F
    refine Zp ⟨rfl,aD a3 ((R9.there F).fewer af) ((P.trans ac).trans L) a5 U ((a9.mono ac).mono L) H aa vB⟩
   |some e=>
    obtain⟨hT,hE⟩:=hO
    obtain⟨left,ao,ap⟩:=Zb.mp H
    subst ap;refine Zc (ff (thn (a2 true hT) λok s9 ⟨an,l,g,a3,L,F⟩=>?_));subst an;obtain⟨U,a5⟩:=a4 F
    have ag:=R9.there F;rw[if_pos rfl];refine Zc (Zc (ff (thn (hE l g _ s9 B l (λv Y=>∃M,Same g M/\ER X.K l g M Y B G/\Den X.K M e v) a3 ⟨g,ag.here,λv Y M aq a6 ar=>⟨M,aq,a6,ar⟩⟩) λuv aq ⟨v,Y,aV,aW,M,ah,a6,ar⟩=>?_)));have aF:Y D=some (.lst ys):=a6.same D _ U;have ai:M D=none:=by
     cases z:M D with
     |none=>rfl
     |some o=>
      rcases a6.new D o z with w|w
      ·rw[a5] at w;cases w
      ·rw[U] at w;cases w
    have b4:ys.length=done.length:=a9.length;have aG:=ag.there a6;refine Zc (ff (thn (ziw _ aq B Y (.ref D) [v] (.ref D) [uv] (λ_ aH=>aH=upd Y D (.lst (ys++[v]))) aV rfl #v[aW] ⟨D,ys,v,rfl,rfl,aF,by omega,rfl⟩) λ_ b5 ⟨_,aH,aX,_,aY⟩=>?_));subst aY;refine Zp (Zp ⟨rfl,aD (zs:=ys++[v]) (more:=done++[e]) aX ((aG.mutF ai aw).fewer af) (((P.trans ac).trans L).trans ah) ai Bm ((((a9.mono ac).mono L).mono ah).append (DenL.cons ar DenL.nil)) ao (by rw[List.append_assoc];exact aa) (by rw[Z7,Vu];omega)⟩)
 ·have e:i=items.length:=by omega
  subst e;rw[G9] at H;cases H;rw[K3] at aa;subst aa;refine ff (thn (T.done (blk X scope (cloF X.env.cells scope.names []) C N' O (upd H1 D (.lst [])) fp) rfl rfl rfl a0 _ [] s5 a7 Ha (λ_ _=>False) J5 (fx ay) ax (az.2 (Zk _))) λr s6 ⟨hr,J6⟩=>?_);subst hr;obtain⟨m,aZ,_⟩:=J6.loc
  refine Zp (av D C s6 Ha Fa ys m (ynf I3 ae J6) aZ J6.free CX.1 CX.2.1 CX.2.2.1 CX.2.2.2 P ⟨R5.sub,R5.same,R5.base,R5.new,λj d e=>?_⟩ a1 aw a8 a9);obtain⟨v,g1,g2⟩:=R1.env j d e
  exact⟨v,g1,g2.mono P⟩
def yej{u U t:Hp}{W:Rho}{σ':L2.St}{RR:Value->Addr->Result->Shared->Prop}{E:Value->Shared->Prop}(I:Inv X pins σ H1 s2)(s:X.calm=true)(T:Turn X.prog X.w X.K tg J fp it tn)(h0:tn 0 s2.heap)(Y:∀b∈fp,FpOk X pins H1 b)
 (Z:scope.kind=.function)(g:∀y∈scope.names,y.2 ≠ .cell)(l:∀y∈scope.names,y.2=.free->∃c,X.env.cells.lookup y.1=some c)
 (R1:ER X.K u U t H1 σ W)(hl:σ'.length=N'.length)(z:∀(i:Nat) d,ρ0[i]? = some (some d)->∃v,σ'[i]? = some (some v)/\Den X.K t d v)
 (hv:∀(i:Nat) (x:Str) (v:V),N'[i]? = some x->σ'[i]? = some (some v)->scope.names.lookup x=some .free/\X.env.kindOf x=some .cell/\∃j:Nat,X.N[j]? = some x/\σ[j]? = some (some v))
 (wk:Walks X.K t J items)(a0:items.length<=sizeLine)(B:zcg f items=some res)
 (F:∀(C:Addr) (s₀:Shared) (H₀:Hp) (d:D) (o:Option D),d∈items->f d=some o->∃n,DGe (blk X scope (cloF X.env.cells scope.names []) C N' s₀ H₀ fp) tg d ρ0 n/\(∀(i:Nat) d,ρ0[i]? = some (some d)->n[i]? = some (some d)) /\
   (match o with|none=>DTs (blk X scope (cloF X.env.cells scope.names []) C N' s₀ H₀ fp) ifs n false|some e=>DTs (blk X scope (cloF X.env.cells scope.names []) C N' s₀ H₀ fp) ifs n true/\DF (blk X scope (cloF X.env.cells scope.names []) C N' s₀ H₀ fp) elt n e))
 (G:∀(D C:Addr) (s5:Shared) (H' R:Hp) (ys:List V) (m:Str->Option Value),Inv X pins σ H' s5->s5.heap.Ns C m->H' C=none->C≠X.env.locals->X.s₀.heap.objs.size<=C->(∀x c,X.env.cells.lookup x=some c->c≠C)->(∀p∈X.pn++pins,p.1≠C) ->
   Same t R->ER X.K u U R H' σ W->R D=none->u D=none->H' D=some (.lst ys)->DenL X.K R res ys->RR (.ref D) C (.ok .next) s5)
 {D:Addr}{h:Shared}(H:Inv X pins σ (upd H1 D (.lst [])) h)(L:∀b∈fp,∃o,h.heap.get? b=some o)(q:∀b∈fp,FpOk X pins (upd H1 D (.lst [])) b)(a1:tn 0 h.heap)(S:ER X.K u U t (upd H1 D (.lst [])) σ W)(a2:t D=none)(a3:u D=none):
  wpAny (model X.prog X.w) X.A (newFunctionEnv scope X.env.globals (cloF X.env.cells scope.names []) [] X.env.qual none .none (some X.env)) (λr M=>
   codeAny (model X.prog X.w) X.A (.compStart (.ListComp elt [⟨tg,iter,ifs,0⟩] scope pos) 0 (.ref it) (.ref D) {r with scope:=relabel scope X.env}) (RR (.ref D) r.locals) M) E h:=by
 refine wpAny_newFunctionEnv g (by intro y hy;simp at hy) (λh4 O P=>?_) Z;have k4:∀b o,h.heap.get? b=some o->h4.get? b=some o:=λb o e=>P.extBut b o (Yc (Zm e)) (Ze _ e)
 have J4:=yne (t':=h.toks+([]:List (Str×Value)).length) (s':=h) (N':=N') H Z g l rfl q L O k4 hl hv;have Q:tn 0 h4:=T.keep 0 _ _ a1 λb hb o e=>k4 b o e
 have CX:h.heap.objs.size≠X.env.locals/\X.s₀.heap.objs.size<=h.heap.objs.size/\(∀x c,X.env.cells.lookup x=some c->c≠h.heap.objs.size)/\(∀p∈X.pn++pins,p.1≠h.heap.objs.size):=by
  obtain⟨_,b1,_,b3,b4,b5⟩:=H.fpOk (H':=upd H1 D (.lst [])) (b:=h.heap.objs.size) (Zk _) (H.hok.fresh (Zk _))
  exact⟨b1,H.sz,b4,b5⟩
 have loop:=zzj (elt:=elt) (iter:=iter) (pos:=pos) (RR:=RR) (E:=E) I s T h0 Y Z g l R1 hl z hv wk a0 B F G H L q rfl J4 Q CX ⟨S.sub,S.same,S.base,S.new,z⟩ a2 a3;exact codeAny_compStart_list loop (T.self _ 0 _ _ _ Q loop)
def zky{K:vE}(hK:K=X.K){P Fc L:Hp}{ρ:Rho}{σ':L2.St}{Q:Value->Addr->Result->Shared->Prop}{E:Value->Shared->Prop}(I:Inv X pins σ H1 s2)(n:X.calm=true)(T:Turn X.prog X.w X.K tg J fp it tn)(R:tn 0 s2.heap)(q:∀b∈fp,FpOk X pins H1 b)
 (hk:scope.kind=.function)(r:∀y∈scope.names,y.2 ≠ .cell)(s:∀y∈scope.names,y.2=.free->∃c,X.env.cells.lookup y.1=some c)
 (R1:ER X.K P Fc L H1 σ ρ)(hl:σ'.length=N'.length)(S:∀(i:Nat) d,ρ0[i]? = some (some d)->∃v,σ'[i]? = some (some v)/\Den X.K L d v)
 (hv:∀(i:Nat) (x:Str) (v:V),N'[i]? = some x->σ'[i]? = some (some v)->scope.names.lookup x=some .free/\X.env.kindOf x=some .cell/\∃j:Nat,X.N[j]? = some x/\σ[j]? = some (some v))
 (wk:Walks X.K L J items)(U:items.length<=sizeLine)(t:zcg f items=some res)
 (u:∀(C:Addr) (s₀:Shared) (H₀:Hp) (d:D) (o:Option D),d∈items->f d=some o->∃g,DGe (blk X scope (cloF X.env.cells scope.names []) C N' s₀ H₀ fp) tg d ρ0 g/\(∀(i:Nat) d,ρ0[i]? = some (some d)->g[i]? = some (some d)) /\
   (match o with|none=>DTs (blk X scope (cloF X.env.cells scope.names []) C N' s₀ H₀ fp) ifs g false|some e=>DTs (blk X scope (cloF X.env.cells scope.names []) C N' s₀ H₀ fp) ifs g true/\DF (blk X scope (cloF X.env.cells scope.names []) C N' s₀ H₀ fp) elt g e))
 (z:∀(D C:Addr) (Y:Shared) (M O:Hp) (ys:List V) (m:Str->Option Value),Inv X pins σ M Y->Y.heap.Ns C m->M C=none->C≠X.env.locals->X.s₀.heap.objs.size<=C->(∀x c,X.env.cells.lookup x=some c->c≠C)->(∀p∈X.pn++pins,p.1≠C) ->
   Same L O->ER X.K P Fc O M σ ρ->O D=none->P D=none->M D=some (.lst ys)->DenL X.K O res ys->Q (.ref D) C (.ok .next) Y):
  wpAny (model X.prog X.w) X.A (newList []) (λB F=>wpAny (model X.prog X.w) X.A (newFunctionEnv scope X.env.globals (cloF X.env.cells scope.names []) [] X.env.qual none .none (some X.env)) (λh G=>
   codeAny (model X.prog X.w) X.A (.compStart (.ListComp elt [⟨tg,iter,ifs,0⟩] scope pos) 0 (.ref it) B {h with scope:=relabel scope X.env}) (Q B h.locals) G) E F) E s2:=by
 have H:∀b∈fp,∃o,s2.heap.get? b=some o:=λb l=>by
  obtain⟨o,e,_⟩:=T.obj 0 _ R b l
  exact⟨o,e⟩
 have k3:∀b o,s2.heap.get? b=some o->(s2.heap.push {cls:=.type "list",data:=.seq ([]:List Value).toArray}).get? b=some o:=λb o e=>Ze _ e
 obtain⟨R3,Z,a0⟩:=R1.put (.lst []) (I.hok.fresh (Zk _))
 refine Jl ?_ (by show 0<=sizeLine;exact Yz _);exact yej (elt:=elt) (iter:=iter) (pos:=pos) (RR:=Q) I n T R q hk r s R1 hl S hv wk U t u z (L2.Inv.lnew (its:=[]) (t':=s2.toks) I .nil (Yz _)) (λb l=>let ⟨o,e⟩:=H b l;⟨o,k3 b o e⟩)
  (λb l=>⟨by rw[Bk (by obtain⟨o,e⟩:=H b l;exact Yc (Zm e))];exact(q b l).1,(q b l).2⟩) (T.keep 0 _ _ R λb l o e=>k3 b o e) R3 Z a0
end
def blkR{d:Type}(k:Nat)(fr:List Nat)(e:List (Option d)):List (Option d):=List.replicate k none++fr.map λi=>(e[i]?).bind id
def zdw{f:Type}{k:Nat}{fr:List Nat}{e:List (Option f)}{i:Nat}{v:f}(h:(blkR k fr e)[i]? = some (some v)):∃m j,i=k+m/\fr[m]? = some j/\e[j]? = some (some v):=by
 unfold blkR at h;by_cases g:i<k
 ·rw[Yt (by rw[Yy];exact g),Y9] at h;split at h<;>cases h
 ·rw[Yb (by rw[Yy];omega),Yy,Zi] at h;cases q:fr[i-k]? with
  |none=>rw[q] at h;cases h
  |some j=>
   rw[q] at h;refine⟨i-k,j,by omega,q,?_⟩
   have d:(e[j]?).bind id=some v:=Z0 h;cases z:e[j]? with
   |none=>rw[z] at d;cases d
   |some o=>rw[z] at d;cases o with
    |none=>cases d
    |some l=>exact congrArg some d
def yaa{d:Type}{k:Nat}{fr:List Nat}{e:List (Option d)}{m j:Nat}{v:d}(f:fr[m]? = some j)(g:e[j]? = some (some v)):(blkR k fr e)[k+m]? = some (some v):=by
 unfold blkR;rw[Yb (by rw[Yy];omega),Yy,Zi,show k+m-k=m by omega,f];simp[g]
def zti{d:Type}{k:Nat}{fr:List Nat}{e:List (Option d)}:(blkR k fr e).length=k+fr.length:=by
 unfold blkR;rw[Z7,Yy,Zd]
open PySem L2 PyProof.Rows
section
variable{X:Cx}{e a b:Expr}{es:List Expr}{ρ:Rho}{pos:Pos}{w:W}
def yjx:OpR X (binaryOp .Add) (λx y H Q=>∃l b g i,x=.ref l/\y=.ref b/\SqL X.K H l g/\SqL X.K H b i/\g.length+i.length<=sizeLine/\∀p,H p=none->Q (.ref p) (upd H p (.lst (g++i)))):=by
 intro z s V H x y v u Q I D E h;obtain⟨l,b,g,i,rfl,rfl,G,J,W,q⟩:=h
 cases D;cases E;obtain⟨e,r,pl,Y⟩:=I.list G
 obtain⟨d,A,j,Z⟩:=I.list J
 obtain⟨⟨L,m,M,sl1⟩,n,B,N,O,P⟩:=pl
 obtain⟨⟨R,o,S,sl2⟩,T,f,t,C,w⟩:=j
 cases N;cases P;cases t;cases w
 have l1:=r.length;have l2:=A.length;have U:e.toArray++d.toArray=(e++d).toArray:=by simp
 refine concat_meets ⟨_,B,rfl⟩ ⟨_,f,rfl⟩ noFill_list_add seq_list_add PySem.F.slot_list_add PySem.F.entry_list_add (PySem.F.args_list_add_2 _ _) (list_addW l b e.toArray d.toArray n T m o sl1 sl2 (by simp only[Zl];omega)) ⟨B,f,?_⟩;rw[U];exact⟨.ref _,_,I.lnew (t':=s.toks) (r.append A) (by rw[Z7];omega),rfl,q _ I.fresh⟩
def DE.cat{l m:List D}(j:DF X a ρ (.lst l))(o:DF X b ρ (.lst m))(s:l.length+m.length<=sizeLine):DE X (.BinOp a .Add b pos) ρ (.new (l++m)):=λe f=>
 PE.mono (yjm yjx (j e f) (o e f)) (zdx λH F K v u Q R t w k=>by
  obtain⟨p,g,z,A,r⟩:=t.lst
  obtain⟨B,h,C,d,i⟩:=w.lst
  subst z;subst C;refine⟨p,B,g,h,rfl,rfl,R.sub.seq A,R.sub.seq d,by rw[r.length,i.length];exact s,λq E=>?_⟩
  obtain⟨G,I,J⟩:=R.put (.lst (g++h)) E
  exact k _ _ _ (Same.refl _) G (RW.n I J Bm (r.append i)))
def yew{l:List D}:zes X (.type "list") [.lst l] (.new l):=⟨_,zgo,λo s H F t ρ u Q R q k=>by
 obtain⟨v,e,q⟩:=q.one
 obtain⟨p,d,f,g,r⟩:=q.lst
 rw[f] at e;refine⟨p,d,e,.inl (R.sub.seq g),λw h=>?_⟩
 obtain⟨i,j,m⟩:=R.put (.lst d) h
 exact k _ _ _ (Same.refl _) i (RW.n j m Bm r)⟩
def zzz{l:List D}:zes X (.type "list") [.tup l] (.new l):=⟨_,zgo,λo s H F t ρ u Q R q k=>by
 obtain⟨v,e,q⟩:=q.one
 obtain⟨p,d,f,g,r⟩:=q.tup
 rw[f] at e;refine⟨p,d,e,.inr (Same.tup R.sub g),λw h=>?_⟩
 obtain⟨i,j,m⟩:=R.put (.lst d) h
 exact k _ _ _ (Same.refl _) i (RW.n j m Bm r)⟩
def ynb{i j:Int}(d:X.calm=true):zes X (.builtin "min") [.int i,.int j] (.val (.int (if j<i then j else i))):=⟨_,zzs d,λh l H F m ρ n Q R q k=>by
 obtain⟨v,u,e,f,g⟩:=q.two
 rw[f.int,g.int] at e;exact⟨i,j,e,k _ H F (Same.refl _) R RW.int⟩⟩
def ync{i j:Int}(d:X.calm=true):zes X (.builtin "max") [.int i,.int j] (.val (.int (if i<j then j else i))):=⟨_,zzu d,λh l H F m ρ n Q R q k=>by
 obtain⟨v,u,e,f,g⟩:=q.two
 rw[f.int,g.int] at e;exact⟨i,j,e,k _ H F (Same.refl _) R RW.int⟩⟩
end
section
variable{X:Cx}{e:Expr}{ρ:RhoS}{pos:Pos}
def zfu{K:vE}{f g F H:Hp}{e:L2.St}(S:SR K f g F H e ρ){i:Nat}{l:List D}(h:ρ[i]? = some (some (.ow l))):∃a d,e[i]? = some (some (.ref a))/\H a=some (.lst d)/\DenL K F l d:=by
 obtain⟨a,d,p,_,_,j,m⟩:=S.own i l h
 exact⟨a,d,p,j,m⟩
def DS.app{i:Nat}{x:Str}{l:List D}{d:D}{p o r B:Pos}(C:X.N[i]? = some x)(E:Vis X.env.scope x)(G:(x == ("__debug__" : Str))=false)(m:(x == ("__classdict__" : Str))=false)(g:ρ[i]? = some (some (.ow l)))(I:DE X e (view ρ) (.val d))(n:Bf e=true)(J:lf d=true)(K:l.length<sizeLine)
 (f:(o.endLine == r.line)=true):DS X (.Expr (.Call (.Attribute (.Name x p) "append" o) [e] [] r) B) ρ (.nx (ρ.set i (some (.ow (l++[d]))))):=λL M=>
 PS.mono (zel (ycl Uy slot_list_append F.type_list_append ziw (zak C E G m) (zcc (I L M) zgk (Bl n)) rfl (by rw[Bl n];rfl) f (Bl n) rfl) rfl) λD O H ⟨F,S,k⟩=>by
  obtain⟨a,h,j,s,P⟩:=zfu S g
  obtain⟨Y,R⟩:=S.borrow
  refine⟨_,j,.inl ⟨rfl,h,SqL.of s⟩,_,R,λv Q Z t R2 q=>?_⟩
  obtain⟨T,U,u,V⟩:=S.back t R2 q J
  obtain⟨a',W,w,z,g3⟩:=zfu u g
  rw[j] at w;cases w;have A:Q a=some (.lst h):=by
   have:=t a (.lst h) (by unfold DL.borrow;rw[if_pos ⟨i,l,g,j⟩];exact s)
   exact R2.sub _ _ this
  rw[A] at z;cases z;refine⟨a,h,v,rfl,rfl,A,by rw[P.length];exact K,k O _ T U (u.mut g j (g3.append (DenL.cons V DenL.nil)))⟩
def yee{K:vE}{F:Hp}{l:List D}{d:List V}(h:DenL K F l d)(e:l≠[]):∃y,d[d.length-1]? = some y/\DenL K F l.dropLast d.dropLast:=by
 have g:0<l.length:=Gb.mpr e;have f:=h.take (l.length-1);refine⟨d[d.length-1]'(by rw[h.length];omega),Zh _,?_⟩
 rw[Vx,Vx,h.length];exact f
def DS.pop{i:Nat}{x:Str}{l:List D}{p f g o:Pos}(q:X.N[i]? = some x)(r:Vis X.env.scope x)(s:(x == ("__debug__" : Str))=false)(e:(x == ("__classdict__" : Str))=false)(h:ρ[i]? = some (some (.ow l)))(t:l≠[])(d:(f.endLine == g.line)=true):
  DS X (.Expr (.Call (.Attribute (.Name x p) "pop" f) [] [] g) o) ρ (.nx (ρ.set i (some (.ow l.dropLast)))):=λA B=>
 PS.mono (zel (ygd Uy Vl F.type_list_pop mt_pop (zak q r s e) rfl d) rfl) λD u H ⟨F,S,k⟩=>by
  obtain⟨a,j,m,n,v⟩:=zfu S h
  obtain⟨y,w,z⟩:=yee v t
  exact⟨_,m,.inl ⟨rfl,j,SqL.of n⟩,a,j,y,rfl,rfl,n,w,k u _ F (Same.refl _) (S.mut h m z)⟩
def DS.clr{i:Nat}{x:Str}{l:List D}{p f g o:Pos}(q:X.N[i]? = some x)(r:Vis X.env.scope x)(s:(x == ("__debug__" : Str))=false)(e:(x == ("__classdict__" : Str))=false)(h:ρ[i]? = some (some (.ow l)))(d:(f.endLine == g.line)=true):
  DS X (.Expr (.Call (.Attribute (.Name x p) "clear" f) [] [] g) o) ρ (.nx (ρ.set i (some (.ow [])))):=λu v=>
 PS.mono (zel (ygd Uy F.slot_list_clear F.type_list_clear ycw (zak q r s e) rfl d) rfl) λD t H ⟨F,S,k⟩=>by
  obtain⟨a,j,m,n,w⟩:=zfu S h
  exact⟨_,m,.inl ⟨rfl,j,SqL.of n⟩,a,j,rfl,rfl,n,k t _ F (Same.refl _) (S.mut h m DenL.nil)⟩
theorem DenL.set{K:vE}{F:Hp}{d:D}{v:V}(q:Den K F d v):∀{l:List D}{f:List V}(n:Nat),DenL K F l f->DenL K F (l.set n d) (f.set n v)
 |[],_,n,h=>by rw[h.inv_nil];simpa using DenL.nil
 |e::l,_,0,h=>by
  obtain⟨u,i,z,g,r⟩:=h.inv_cons
  subst z;exact DenL.cons q r
 |e::l,_,n+1,h=>by
  obtain⟨u,i,z,g,r⟩:=h.inv_cons
  subst z;exact DenL.cons g (DenL.set q n r)
def DS.seti{i n:Nat}{x:Str}{l:List D}{d:D}{j:Int}{p h w:Pos}{k:Expr}(L:X.N[i]? = some x)(M:Vis X.env.scope x)(O:(x == ("__debug__" : Str))=false)(m:(x == ("__classdict__" : Str))=false)(f:ρ[i]? = some (some (.ow l)))(P:DE X e (view ρ) (.val d))(Q:DF X k (view ρ) (.int j))(T:lf d=true)(U:ixN l.length j=some n)
 (o:zdr k=true)(r:swapsWithSole [.Subscript (.Name x p) k h] e w.line X.env=pure false)(V:swappedStores [.Subscript (.Name x p) k h] e X.env=pure none):DS X (.Assign [.Subscript (.Name x p) k h] e w) ρ (.nx (ρ.set i (some (.ow (l.set n d))))):=λs z=>
 PS.mono (yfy (P s z) (pg_sub (zak L M O m) (Q s z) ybt (by intro v;cases k<;>first|rfl|(cases o;done))) r V rfl) λD A H ⟨F,S,W⟩=>by
  obtain⟨a,t,g,Y,Z⟩:=zfu S f
  obtain⟨s0,R⟩:=S.borrow
  have ow:Owned A ρ a:=⟨i,l,f,g⟩;refine⟨_,R,λv H2 F2 B R2 q=>?_⟩
  refine⟨.ref a,g,F2,R2,λkv H3 F3 u C q3=>?_⟩
  obtain⟨F4,s4,E,q4⟩:=S.back (B.trans u) C (show RW X.K s F3 H3 (.val d) v from Den.mono u d q) T
  obtain⟨a',a0,G,I,g3⟩:=zfu E f
  rw[g] at G;cases G;have J:H3 a=some (.lst t):=by
   have:=(B.trans u) a (.lst t) (by unfold DL.borrow;rw[if_pos ow];exact Y)
   exact C.sub _ _ this
  rw[J] at I;cases I;refine⟨a,t,j,n,rfl,q3.int,J,by rw[Z.length];exact U,W A _ F4 s4 (E.mut f g (DenL.set q4 n g3))⟩
end
end DL
namespace DL
open PySem
end DL
namespace DL
open PySem
end DL
namespace DL
open PySem
section
variable{prog:Program}{w:World}{A:Around}{E:Value->Shared->Prop}{s:Shared}
abbrev IsTK(prog:Program)(w:World)(h:Heap)(k:List Int)(a:Addr):Prop:=IsTupleKey (intKind prog w) h k a
end
end DL
namespace DL
open PySem
section
variable{prog:Program}{w:World}{A:Around}{E:Value->Shared->Prop}{s:Shared}
end
end DL
namespace DL
open PySem
section
variable{prog:Program}{w:World}{A:Around}{E:Value->Shared->Prop}{s:Shared}
end
end DL
namespace DL
open PySem
section
variable{prog:Program}{w:World}{A:Around}{E:Value->Shared->Prop}{s:Shared}
end
end DL
namespace DL
open PySem
section
variable{prog:Program}{w:World}{A:Around}{E:Value->Shared->Prop}{s:Shared}
end
end DL
namespace DL
open PySem
section
variable{prog:Program}{w:World}{A:Around}{E:Value->Shared->Prop}{s:Shared}
end
end DL
namespace DL
open PySem PySem.W PyProof.Rows
structure Ord(N:Nat)(b:Nat->Nat->Bool):Prop where
 tr:∀i j k,b i j=true->b j k=true->b i k=true
 tot:∀i j,i<N->j<N->i≠j->b i j=true\/b j i=true
 asy:∀i j,b i j=true->b j i=true->False
def Arr(N:Nat)(p:Array Nat):Prop:=p.toList.Perm (List.range N)
def Srt(b:Nat->Nat->Bool)(p:Array Nat)(k:Nat):Prop:=∀i j,i<j->j<k->b (p.getD i 0) (p.getD j 0)=true
section
variable{b:Nat->Nat->Bool}{N:Nat}{p:Array Nat}
theorem Arr.size(h:Arr N p):p.size=N:=by
 have:=h.length_eq
 simpa using this
def gd{i:Nat}(h:i<p.size):p.getD i 0=p[i]:=by simp[Array.getD,h]
def gd?{q:Array Nat}{i j:Nat}(h:p[i]? = q[j]?):p.getD i 0=q.getD j 0:=by
 have e:∀(a:Array Nat) (k:Nat),a.getD k 0=(a[k]?).getD 0:=λa k=>by
  by_cases q:k<a.size
  ·rw[gd q,W6 q];rfl
  ·simp[Array.getD,q]
 rw[e,e,h]
def Arr.lt(h:Arr N p)(d:0<N)(i:Nat):p.getD i 0<N:=by
 by_cases q:i<p.size
 ·rw[gd q];exact W8.mp (h.mem_iff.mp (Ju.mpr (Array.getElem_mem q)))
 ·rw[show p.getD i 0=0 by simp[Array.getD,q]];exact d
def Arr.inj(h:Arr N p){i j:Nat}(l:i<N)(m:j<N)(e:p.getD i 0=p.getD j 0):i=j:=by
 have n:p.toList.Nodup:=h.nodup_iff.mpr List.nodup_range;have d:i<p.size:=by rw[h.size];exact l
 have f:j<p.size:=by rw[h.size];exact m
 rw[gd d,gd f] at e;have:=Wg.mp n
 rcases Nat.lt_trichotomy i j with q|q|q
 ·have g:=this i j d f q;rw[Qa,Qa] at g;exact absurd e g
 ·exact q
 ·have g:=this j i f d q;rw[Qa,Qa] at g;exact absurd e.symm g
def Arr.perm{q:Array Nat}(h:Arr N p)(e:q.Perm p):Arr N q:=(Array.perm_iff_toList_perm.mp e).trans h
def Srt.more(O:Ord N b){n:Nat}(h:Srt b p n)(f:1<=n)(e:b (p.getD (n-1) 0) (p.getD n 0)=true):Srt b p (n+1):=λi j d g=>by
 by_cases q:j<n
 ·exact h i j d q
 ·have:j=n:=by omega
  subst this;by_cases z:i=j-1
  ·subst z;exact e
  ·exact O.tr _ _ _ (h i (j-1) vB vB) e
def Ord.not(O:Ord N b)(A:Arr N p){i j:Nat}(d:i<N)(f:j<N)(g:i≠j)(h:b (p.getD i 0) (p.getD j 0)=false):b (p.getD j 0) (p.getD i 0)=true:=by
 rcases O.tot (p.getD i 0) (p.getD j 0) (A.lt vB i) (A.lt vB j) (λe=>g (A.inj d f e)) with q|q
 ·rw[h] at q;cases q
 ·exact q
section
variable{cmp:Nat->Nat->(Bool->Shared->Prop)->Shared->Prop}{s:Shared}
abbrev zri(N:Nat)(b:Nat->Nat->Bool)(s:Shared)(cmp:Nat->Nat->(Bool->Shared->Prop)->Shared->Prop):Prop:=∀(i j:Nat) (C:Bool->Shared->Prop),i<N->j<N->C (b i j) s->cmp i j C s
theorem yaj(i:zri N b s cmp)(O:Ord N b)(A:Arr N p):∀(f n:Nat) (G:Nat->Shared->Prop),1<=n->n+f<=N->Srt b p n->(∀m,n<=m->m<=n+f->Srt b p m->(m<n+f->b (p.getD m 0) (p.getD (m-1) 0)=true)->G m s)->(kas_asc p f n).kasWp cmp G s
 |0,n,G,j,l,d,g=>g n (Zk _) vB d λh=>by omega
 |f+1,n,G,j,l,d,g=>by
  unfold kas_asc;refine i _ _ _ (A.lt vB _) (A.lt vB _) ?_;cases e:b (p.getD n 0) (p.getD (n-1) 0) with
  |true=>
   dsimp only;rw[if_pos rfl];exact g n (Zk _) vB d λ_=>e
  |false=>
   dsimp only;rw[if_neg Zr];exact yaj i O A f (n+1) G vB vB (d.more O j (O.not A vB vB vB e)) λm r t o q=>g m vB vB o λz=>q vB
def Fal(b:Nat->Nat->Bool)(p:Array Nat)(k:Nat):Prop:=∀i j,i<j->j<k->b (p.getD j 0) (p.getD i 0)=true
def Fal.more(O:Ord N b){n:Nat}(h:Fal b p n)(f:1<=n)(e:b (p.getD n 0) (p.getD (n-1) 0)=true):Fal b p (n+1):=λi j d g=>by
 by_cases q:j<n
 ·exact h i j d q
 ·have:j=n:=by omega
  subst this;by_cases z:i=j-1
  ·subst z;exact e
  ·exact O.tr _ _ _ e (h i (j-1) vB vB)
theorem zzb(h:zri N b s cmp)(O:Ord N b)(A:Arr N p):∀(f n:Nat) (G:Array Nat×Nat×Nat->Shared->Prop),1<=n->n+f<=N->Fal b p n->(∀m,n<=m->m<=n+f->Fal b p m->G (p,m,0) s)->(kas_desc f p n 0).kasWp cmp G s
 |0,n,G,i,j,d,g=>g n (Zk _) vB d
 |f+1,n,G,i,j,d,g=>by
  unfold kas_desc;refine h _ _ _ (A.lt vB _) (A.lt vB _) ?_;cases e:b (p.getD n 0) (p.getD (n-1) 0) with
  |true=>
   dsimp only;rw[if_pos rfl,if_neg vB];exact zzb h O A f (n+1) G vB vB (d.more O i e) λm o q l=>g m vB vB l
  |false=>
   dsimp only;rw[if_neg Zr];refine h _ _ _ (A.lt vB _) (A.lt vB _) ?_;dsimp only;rw[O.not A vB vB vB e,if_pos rfl];exact g n (Zk _) vB d
def zwt(A:Arr N p)(i j:Nat):Arr N (kas_rev p i j):=A.perm (mirror_perm _ _ _ _)
def yjb{n:Nat}(d:n<=p.size)(h:Fal b p n):Srt b (kas_rev p 0 n) n:=λi j f g=>by
 have e:∀k,k<n->(kas_rev p 0 n).getD k 0=p.getD (n-1-k) 0:=λk l=>by
  unfold kas_rev;refine gd? ?_;rw[getElem?_mirror_all d,if_pos vB,Wo]
 rw[e i vB,e j vB];exact h _ _ vB vB
def ybk(d:zri N b s cmp)(O:Ord N b)(A:Arr N p){n:Nat}{G:Nat×Array Nat->Shared->Prop}(e:1<=n)(f:n<=N)(g:Fal b p n)(h:∀m q,Arr N q->1<=m->m<=N->Srt b q m->G (m,q) s):(kas_tail3 n N p).kasWp cmp G s:=by
 unfold kas_tail3;rw[KasT.kasWp_bind];exact yaj d O (zwt A 0 n) (N-n) n _ e vB (yjb (by rw[A.size];exact f) g) λm j l i _=>h m _ (zwt A 0 n) vB vB i
def yeg(d:zri N b s cmp)(O:Ord N b)(A:Arr N p){G:Nat×Array Nat->Shared->Prop}(u:1<=N)(e:∀m q,Arr N q->1<=m->m<=N->Srt b q m->G (m,q) s):(kas_count N p).kasWp cmp G s:=by
 unfold kas_count;rw[KasT.kasWp_bind];refine yaj d O A (N-1) 1 _ (Zk _) vB (λi j a b=>by omega) λm h v f n=>?_;by_cases g:(m == N)=true
 ·rw[if_pos g];exact e m p A h vB f
 ·rw[if_neg g];have w:m<N:=by
   have:m≠N:=λq=>g (by rw[q];exact beq_self_eq_true _)
   omega
  by_cases l:m > 1
  ·rw[if_pos l];refine d _ _ _ (A.lt vB _) (A.lt vB _) ?_;dsimp only;rw[f 0 (m-1) vB vB,if_pos rfl];exact e m p A h vB f
  ·rw[if_neg l];have:m=1:=by omega
   subst this;unfold kas_descPart;rw[KasT.kasWp_bind];refine zzb d O A (N-(1+1)) (1+1) _ vB vB (λi j a c=>?_) λm z B o=>?_
   ·have r:i=0:=by omega
    have t:j=1:=by omega
    subst r;subst t;exact n vB
   ·dsimp only;rw[if_neg vB];exact ybk d O A vB vB o e
theorem zln(o:zri N b s cmp)(O:Ord N b)(A:Arr N p){k:Nat}(u:k<N)(g:Srt b p k):∀(f l r:Nat) (G:Nat->Shared->Prop),l<=r->r<=k->r-l<=f->(∀i,i<l->b (p.getD k 0) (p.getD i 0)=false)->(∀i,r<=i->i<k->b (p.getD k 0) (p.getD i 0)=true) ->
   (∀m,m<=k->(∀i,i<m->b (p.getD k 0) (p.getD i 0)=false)->(∀i,m<=i->i<k->b (p.getD k 0) (p.getD i 0)=true)->G m s)->(kas_place p k f l r).kasWp cmp G s
 |0,l,r,G,v,h,B,j,n,d=>by
  have:l=r:=by omega
  subst this;exact d l h j n
 |f+1,l,r,G,v,h,B,j,n,d=>by
  unfold kas_place;by_cases q:l >= r
  ·rw[if_pos q];have:l=r:=by omega
   subst this;exact d l h j n
  ·rw[if_neg q];refine o _ _ _ (A.lt vB _) (A.lt vB _) ?_;cases e:b (p.getD k 0) (p.getD ((l+r)/2) 0) with
   |true=>
    dsimp only;rw[if_pos rfl];refine zln o O A u g f l _ G vB vB vB j (λi C t=>?_) d;by_cases z:i=(l+r)/2
    ·subst z;exact e
    ·exact O.tr _ _ _ e (g _ i vB t)
   |false=>
    dsimp only;rw[if_neg Zr];refine zln o O A u g f _ r G vB h vB (λi C=>?_) n d;by_cases z:i=(l+r)/2
    ·subst z;exact e
    ·cases w:b (p.getD k 0) (p.getD i 0) with
     |false=>rfl
     |true=>
      have:=O.tr _ _ _ w (g i ((l+r)/2) vB vB)
      rw[e] at this;cases this
def ymw(O:Ord N b)(A:Arr N p){k m:Nat}(l:k<N)(v:m<=k)(h:Srt b p k)(r:∀i,i<m->b (p.getD k 0) (p.getD i 0)=false)(s:∀i,m<=i->i<k->b (p.getD k 0) (p.getD i 0)=true):Srt b (bubble p k (k-m)) (k+1):=by
 have t:k<p.size:=by rw[A.size];exact l
 have e:∀i,(bubble p k (k-m)).getD i 0=p.getD (if i=m then k else if m<i/\i<=k then i-1 else i) 0:=λi=>by
  refine gd? ?_;rw[getElem?_bubble t (k-m) vB,show k-(k-m)=m by omega];by_cases q:i=m
  ·rw[if_pos q,if_pos q]
  ·rw[if_neg q,if_neg q];by_cases g:m<i/\i<=k
   ·rw[if_pos g,if_pos g]
   ·rw[if_neg g,if_neg g]
 intro i j u w;rw[e,e];by_cases n:i=m
 ·rw[if_pos n,if_neg vB,if_pos vB];exact s _ vB vB
 ·rw[if_neg n];by_cases d:m<i/\i<=k
  ·rw[if_pos d,if_neg vB,if_pos vB];exact h _ _ vB vB
  ·rw[if_neg d];by_cases o:j=m
   ·rw[if_pos o];exact O.not A l vB vB (r i vB)
   ·rw[if_neg o];by_cases f:m<j/\j<=k
    ·rw[if_pos f];exact h _ _ vB vB
    ·rw[if_neg f];exact h _ _ vB vB
theorem yhf(O:Ord N b)(g:zri N b s cmp):∀(f k:Nat) (p:Array Nat) (G:Array Nat->Shared->Prop),Arr N p->k+f=N->Srt b p k->(∀q,Arr N q->Srt b q N->G q s)->(kas_bin f p k).kasWp cmp G s
 |0,k,p,G,A,h,d,e=>by
  have:k=N:=by omega
  subst this;exact e p A d
 |f+1,k,p,G,A,h,d,e=>by
  unfold kas_bin;rw[KasT.kasWp_bind];refine zln g O A vB d k 0 k _ (Yz _) (Zk _) vB (λi j=>by omega) (λi j l=>by omega) λm n o r=>?_;exact yhf O g f (k+1) _ G (A.perm (bubble_perm _ _ _)) vB (ymw O A vB n d o r) e
def yid(O:Ord N b)(d:zri N b s cmp)(i:1<=N){G:Array Nat->Shared->Prop}(h:∀q,Arr N q->Srt b q N->G q s):(kas_sort N).kasWp cmp G s:=by
 unfold kas_sort;rw[KasT.kasWp_bind];refine yeg d O (Gc _) i λm q f j l g=>?_;dsimp only;by_cases e:m<N
 ·rw[if_pos e,show max m 1=m by omega];exact yhf O d (N-m) m q G f vB g h
 ·rw[if_neg e];have:m=N:=by omega
  subst this;exact h q f g
end
end
end DL
namespace DL
open PySem PySem.W PyProof.Rows
def ltK:List Int->List Int->Bool
 |[a,b],[c,d]=>decide (a<c) || (decide (a=c) && decide (b<d))
 |_,_=>false
def isPr:List Int->Bool
 |[_,_]=>true
 |_=>false
theorem ygk:∀x y z,ltK x y=true->ltK y z=true->ltK x z=true
 |[a,b],[c,d],[e,f],g,h=>by
  simp only[ltK,Jo,Zj,decide_eq_true_eq] at g h |-;omega
theorem zly:∀x y,ltK x y=true->ltK y x=true->False
 |[a,b],[c,d],e,f=>by
  simp only[ltK,Jo,Zj,decide_eq_true_eq] at e f;omega
theorem zxw:∀x y,isPr x=true->isPr y=true->x≠y->ltK x y=true\/ltK y x=true
 |[a,b],[c,d],_,_,h=>by
  simp only[ltK,Jo,Zj,decide_eq_true_eq];have:¬(a=c/\b=d):=λ⟨e,f⟩=>h (by rw[e,f])
  omega
def zlm{d:Program}{w:World}{a b:Int}{f:List Value}(h:ItemsAre (intKind d w) [a,b] f):∃t u,f=[.int a t,.int b u]:=by
 cases h with
 |cons g e=>
  cases e with
  |cons e i=>
   cases i;obtain⟨t,j⟩:=Uf g
   obtain⟨u,l⟩:=Uf e
   exact⟨t,u,by rw[j,l]⟩
def ycg{d:Type}{R:d->d->Prop}{l:List d}(h:l.length<2):l.Pairwise R:=by
 cases l with
 |nil=>exact List.Pairwise.nil
 |cons x r=>
  cases r with
  |nil=>exact Y8 _ _
  |cons y r=>rw[Zq,Zq] at h;omega
section
variable{prog:Program}{w:World}{A:Around}{E:Value->Shared->Prop}{s:Shared}
def lt_pr{k l:List Int}{x y:Addr}{Q:Bool->Shared->Prop}(o:isPr k=true)(p:isPr l=true)(f:IsTK prog w s.heap k x)(g:IsTK prog w s.heap l y)(h:Q (ltK k l) s):wpAny (model prog w) A (keyLt' (tuples' true) (.ref x) (.ref y)) Q E s:=by
 match k,o,l,p,f,g,h with
 |[a,b],_,[c,d],_,f,g,h=>
  obtain⟨I,q,n,r,_,v,z⟩:=f
  obtain⟨J,B,m,C,_,D,F⟩:=g
  obtain⟨t,u,ex⟩:=zlm z
  obtain⟨K,L,j⟩:=zlm F
  have G:q.size=2:=by rw[<-Qf,ex];rfl
  have H:B.size=2:=by rw[<-Qf,j];rfl
  refine kat_lt r v C D ?_;rw[ex,j,G,H];refine kat_cons (Vi ?_);by_cases e:a=c
  ·rw[show(a == c)=true by simpa using e];refine kat_yes (kat_cons (Vi ?_));by_cases i:b=d
   ·rw[show(b == d)=true by simpa using i];refine kat_yes (kat_nil ?_);have:ltK [a,b] [c,d]=decide (2<2):=by subst e;subst i;simp[ltK]
    rw[this] at h;exact h
   ·rw[show(b == d)=false by simpa using i];refine kat_no (kat_one _ _ (lt_int ?_));have:ltK [a,b] [c,d]=decide (b<d):=by subst e;simp[ltK]
    rw[this] at h;exact h
  ·rw[show(a == c)=false by simpa using e];refine kat_no ?_;show wpAny _ _ (oneLt' true _ _) _ _ _;refine oneLt_int ?_;have:ltK [a,b] [c,d]=decide (a<c):=by simp[ltK,e]
   rw[this] at h;exact h
theorem katT:∀(f:List (List Int×Addr)),(∀x∈f,IsTK prog w s.heap x.1 x.2/\isPr x.1=true)->∃j,KatTups s.heap (f.map λx=>Value.ref x.2) j/\j.length=f.length/\∀v∈j,∃i t,v=.int i t
 |[],_=>⟨[],trivial,rfl,λv h=>by cases h⟩
 |(k,a)::f,h=>by
  obtain⟨j,q,r,z⟩:=katT f λx A=>h x (.tail _ A)
  obtain⟨l,B⟩:=h (k,a) (.head _)
  match k,B,l with
  |[c,d],_,l=>
   obtain⟨o,m,n,g,C,D,E⟩:=l
   obtain⟨t,u,e⟩:=zlm E
   refine⟨.int c t::j,KatTups.cons g C D ?_ q,by simp[r],λv p=>?_⟩
   ·have:m = #[.int c t,.int d u]:=by apply Ks.mp;rw[e]
    rw[this];rfl
   ·rcases Zg.mp p with e|p
    ·exact⟨c,t,e⟩
    ·exact z v p
def yic{a:Addr}{xs:List (List Int×Addr)}{n:Nat}{P:PySem.Fin->Shared->Prop}(N:s.heap.get? a=some (seqObj "list" (xs.map λx=>Value.ref x.2).toArray n))(G:∀x∈xs,IsTK prog w s.heap x.1 x.2/\isPr x.1=true)
 (nd:(xs.map (·.1)).Nodup)(aa:xs.length<64)
 (h:∀Z (z:List (List Int×Addr)) n',z.Perm xs->z.Pairwise (λx y=>ltK x.1 y.1=true)->Z.get? a=some (seqObj "list" (z.map λx=>Value.ref x.2).toArray n')->(∀b o,b≠a->s.heap.get? b=some o->Z.get? b=some o)->P (.done (.ret .none)) {s with heap:=Z}):
  wpAny (model prog w) A (Builtin.«list.sort» ⟨[.ref a],[]⟩) P E s:=by
 generalize I:(xs.map λx=>Value.ref x.2)=d at N;have L:d.length=xs.length:=by rw[<-I];simp
 have ha:a<s.heap.objs.size:=Zm N;have s1:=Kh s.heap a (Obj.mapSeq λ_=>(#[]:Array Value));obtain⟨e1,S⟩:∃e1,(s.heap.update a (Obj.mapSeq λ_=>(#[]:Array Value))).get? a=some (seqObj "list" #[] e1):=⟨_,get?_update_seq N λ_=>#[]⟩
 generalize hH:((s.heap.update a (Obj.mapSeq λ_=>(#[]:Array Value))).push (seqObj "tuple" d.toArray 0)).push (seqObj "list" #[] 0)=H;have l:H.get? a=some (seqObj "list" #[] e1):=by rw[<-hH];exact Ze _ (Ze _ S)
 have M:∀b o,b≠a->s.heap.get? b=some o->H.get? b=some o:=λb o X e=>by
  rw[<-hH];exact Ze _ (Ze _ ((s1.2 b X).trans e))
 have a0:∀x∈xs,x.2≠a:=λx Y e=>by
  obtain⟨⟨o,_,_,g,hc,_⟩,_⟩:=G x Y
  rw[e,N] at g;cases g;injection hc with e
  exact absurd e vA
 have f:∀x∈xs,IsTK prog w H x.1 x.2/\isPr x.1=true:=λx Y=>by
  obtain⟨⟨o,a5,m,g,r⟩,U⟩:=G x Y
  exact⟨⟨o,a5,m,M _ _ (a0 x Y) g,r⟩,U⟩
 have V:∀(B:Shared) (z:List (List Int×Addr)),B={s with heap:=H}->z.Perm xs->z.Pairwise (λx y=>ltK x.1 y.1=true)->P (.done (.ret .none)) {B with heap:=B.heap.update a (Obj.mapSeq λ_=>(z.map λx=>Value.ref x.2).toArray)}:=λB z e U hw=>by
  subst e;refine h _ z _ U hw (get?_update_seq l λ_=>(z.map λx=>Value.ref x.2).toArray) λb o X e=>?_;exact((Kh H a _).2 b X).trans (M b o X e)
 rw[list_sort_plain];refine Zc (listItems_at N rfl ?_);refine Zc (Uv N rfl ?_ (by rw[Zl,Ku];omega) (Yz _));refine Zc (seqEpoch_at S rfl ?_);refine Zc (Vz ?_ (by show d.length<=_;rw[Ku];omega));refine Zc (Gg ?_ (Yz _));refine Ws ?_;show wpAny (model prog w) A _ P E {s with heap:=((s.heap.update a (Obj.mapSeq λ_=>(#[]:Array Value))).push (seqObj "tuple" d.toArray 0)).push (seqObj "list" #[] 0)};rw[hH];dsimp only;by_cases D:d.toArray.size<2
 ·rw[if_pos D,if_pos D];refine Zc (Zp ?_);rw[StateT.run_pure];refine Zc (Zp ?_);dsimp only;refine Zc (seqEpoch_at l rfl ?_);refine Zc (Uv l rfl ?_ (Yz _) (by rw[Array.size_map];show(pairsOf d).size<=_;rw[pairsOf_size,Ku];omega));simp only[bne_self_eq_false,Y4,if_false];have e2:(arrOf (SortSt.mk' general' (d.toArray.zip d.toArray) #[] 7 none)).map (·.2)=(xs.map λx=>Value.ref x.2).toArray:=by
   rw[I];apply Ks.mp
   refine Qc λi=>?_;show(((pairsOf d).map (·.2)).toList)[i]? = _;by_cases q:i<d.length
   ·simp[pairsOf,q]
   ·simp[pairsOf,q]
  refine Zp ?_;have:=V {s with heap:=H} xs rfl (Gc _) (ycg (by
   rw[Zl,L] at D;exact D))
  rw[<-e2] at this;exact this
 ·rw[if_neg D,if_neg D];rw[Zl] at D;obtain⟨fs,kt,kl,ki⟩:=katT (s:={s with heap:=H}) xs f
  rw[I] at kt;refine Zc (kat_kind (T:=.type "int") kt vB (λv hv=>?_) rfl ?_)
  ·obtain⟨i,t,rfl⟩:=ki v hv
   exact Looks.of_pure rfl
  have a6:SortSt.mk' (tuples' true) (d.toArray.zip d.toArray) #[] 7 none=kas_st (tuples' true) (pairsOf d) (List.toArray (List.range d.length)):=by
   have e:=kas_range (pairsOf d);rw[pairsOf_size] at e;show SortSt.mk' (tuples' true) (pairsOf d) #[] 7 none=SortSt.mk' (tuples' true) ((List.toArray (List.range d.length)).map (kas_item (pairsOf d))) #[] 7 none;rw[e]
  let b:Nat->Nat->Bool:=λi j=>ltK (xs.getD i ([],0)).1 (xs.getD j ([],0)).1
  have R:∀i,i<xs.length->xs.getD i ([],0)∈xs:=λi F=>by
   rw[Zx,Zh F];exact Ka F
  have gv:∀i,i<xs.length->d.getD i Value.none=.ref (xs.getD i ([],0)).2:=λi F=>by
   rw[<-I,Zx,Zi,Zx,Zh F];rfl
  have O:Ord d.length b:=⟨λi j k=>ygk _ _ _,λi j F hj ne=>zxw _ _ (G _ (R i vB)).2 (G _ (R j vB)).2 (λe=>ne (by
   have J:i<xs.length:=by omega
   have K:j<xs.length:=by omega
   rw[Zx,Zh J,Zx,Zh K] at e;have:=(Kt (h₀:=by simpa using J) (h₁:=by simpa using K) nd).mp (by simpa using e)
   exact this)),λi j=>zly _ _⟩
  have a7:(kas_sort d.length).kasWp (kas_cmp prog w A (tuples' true) (pairsOf d)) (λp B=>B={s with heap:=H}/\Arr d.length p/\Srt b p d.length) {s with heap:=H}:=by
   refine yid O (λi j C F hj hC=>?_) vB λq h1 D=>⟨rfl,h1,D⟩
   unfold kas_cmp;rw[kas_item_eq,kas_item_eq,gv i vB,gv j vB];exact lt_pr (f _ (R i vB)).2 (f _ (R j vB)).2 (f _ (R i vB)).1 (f _ (R j vB)).1 hC
  have run:=kas_runs (E:=E) (Q:=λ_ u B=>∃p:Array Nat,p.size=d.length/\arrOf u=p.map (kas_item (pairsOf d))/\failedOf u=none/\B={s with heap:=H}/\Arr d.length p/\Srt b p d.length)
   vB vB (λp' u B a1 a2 a3 a4=>⟨p',a1,a2,a3,a4⟩) a7
  rw[<-a6] at run;refine Zc (Ua run ?_ λ_ _ e=>e);rintro⟨⟨⟩,u⟩ B ⟨p,U,a8,hf,rfl,hA,hS⟩
  dsimp only;have W:(arrOf u).map (·.2)=((p.toList.map λi=>xs.getD i ([],0)).map λx=>Value.ref x.2).toArray:=by
   apply Ks.mp
   rw[a8,Array.map_map,Array.toList_map,Yd];refine Qg λi F=>?_;show(kas_item (pairsOf d) i).2=_;rw[kas_item_eq];exact gv i (by have:=W8.mp (hA.mem_iff.mp F);omega)
  rw[W];refine Zc (seqEpoch_at l rfl ?_);refine Zc (Uv l rfl ?_ (Yz _) (by
   have:p.toList.length=d.length:=by rw[Qf,U]
   simp only[Zl,Zd,this];rw[Ku];omega))
  rw[hf];simp only[bne_self_eq_false,Y4,if_false];refine Zp (V {s with heap:=H} _ rfl ?_ ?_)
  ·have e0:xs=(List.range xs.length).map λi=>xs.getD i ([],0):=by
    refine List.ext_getElem vC λi h1 D=>?_;simp[h1]
   have:=hA.map λi=>xs.getD i ([],0)
   rw[L,<-e0] at this;exact this
  ·rw[Qb,Wg];intro i j F hj a9;have J:i<p.size:=by simpa using F
   have K:j<p.size:=by simpa using hj
   have:=hS i j a9 vB
   rw[gd J,gd K] at this;rw[Qa,Qa];exact this
end
end DL
namespace DL
open PySem PySem.W PyProof.Rows
section
variable{prog:Program}{w:World}{A:Around}{E:Value->Shared->Prop}{s:Shared}
end
open PySem L2 PyProof.Rows
def insK(k:List Int):List (List Int)->List (List Int)
 |[]=>[k]
 |x::l=>if ltK k x=true then k::x::l else if k=x then x::l else x::insK k l
def ssK:List (List Int)->List (List Int)
 |[]=>[]
 |k::l=>insK k (ssK l)
abbrev SrtK(l:List (List Int)):Prop:=l.Pairwise λx y=>ltK x y=true
theorem insK_mem{k x:List Int}:∀{l:List (List Int)},x∈insK k l↔x=k\/x∈l
 |[]=>by simp[insK]
 |y::l=>by
  unfold insK;split
  ·simp
  ·split
   ·rename_i e;subst e;simp
   ·rw[Zg,insK_mem,Zg];constructor
    ·rintro(h|h|h)
     ·exact .inr (.inl h)
     ·exact .inl h
     ·exact .inr (.inr h)
    ·rintro(h|h|h)
     ·exact .inr (.inl h)
     ·exact .inl h
     ·exact .inr (.inr h)
theorem zsk{k:List Int}(g:isPr k=true):∀{l:List (List Int)},(∀x∈l,isPr x=true)->SrtK l->SrtK (insK k l)
 |[],_,_=>Y8 _ _
 |y::l,h,f=>by
  obtain⟨i,j⟩:=Y3.mp f
  unfold insK;split
  ·rename_i e;refine Y3.mpr ⟨λx d=>?_,f⟩;rcases Zg.mp d with q|q
   ·rw[q];exact e
   ·exact ygk _ _ _ e (i x q)
  ·rename_i e;split
   ·exact f
   ·rename_i m;refine Y3.mpr ⟨λx d=>?_,zsk g (λx d=>h x (.tail _ d)) j⟩;rcases insK_mem.mp d with q|q
    ·rw[q];exact(zxw k y g (h y (.head _)) m).resolve_left e
    ·exact i x q
theorem ssK_mem{x:List Int}:∀{l:List (List Int)},x∈ssK l↔x∈l
 |[]=>Iff.rfl
 |k::l=>by
  unfold ssK;rw[insK_mem,ssK_mem,Zg]
theorem zpr:∀{l:List (List Int)},(∀x∈l,isPr x=true)->SrtK (ssK l)
 |[],_=>List.Pairwise.nil
 |k::l,h=>zsk (h k (.head _)) (λx d=>h x (.tail _ (ssK_mem.mp d))) (zpr λx d=>h x (.tail _ d))
theorem yfw:∀{l m:List (List Int)},SrtK l->SrtK m->(∀x,x∈l↔x∈m)->l=m
 |[],[],_,_,_=>rfl
 |[],y::m,_,_,h=>by have:=(h y).mpr (.head _);cases this
 |x::l,[],_,_,h=>by have:=(h x).mp (.head _);cases this
 |x::l,y::m,j,n,h=>by
  obtain⟨f,o⟩:=Y3.mp j
  obtain⟨g,p⟩:=Y3.mp n
  have e:x=y:=by
   rcases Zg.mp ((h x).mp (.head _)) with q|q
   ·exact q
   ·rcases Zg.mp ((h y).mpr (.head _)) with i|i
    ·exact i.symm
    ·exact(zly _ _ (g x q) (f y i)).elim
  subst e;rw[yfw o p λz=>⟨λd=>?_,λd=>?_⟩]
  ·rcases Zg.mp ((h z).mp (.tail _ d)) with q|q
   ·subst q;exact(zly _ _ (f z d) (f z d)).elim
   ·exact q
  ·rcases Zg.mp ((h z).mpr (.tail _ d)) with q|q
   ·subst q;exact(zly _ _ (g z d) (g z d)).elim
   ·exact q
def keyD:D->Option (List Int)
 |.tup [.int a,.int b]=>some [a,b]
 |_=>none
def zmc:List D->Option (List (List Int))
 |[]=>some []
 |d::l=>(keyD d).bind λk=>(zmc l).map λe=>k::e
def dK(k:List Int):D:=.tup (k.map D.int)
def zyf{d:D}{k:List Int}(h:keyD d=some k):∃a b,d=.tup [.int a,.int b]/\k=[a,b]:=by
 unfold keyD at h;split at h
 ·cases h;exact⟨_,_,rfl,rfl⟩
 ·cases h
section
variable{X:Cx}{e:Expr}{es:List Expr}{ρ:Rho}{pos:Pos}{w:W}
theorem zsy{K:vE}{F:Hp}:∀{l:List D}{j:List V}{i:List (List Int)},DenL K F l j->zmc l=some i->∃f:List (List Int×Addr),j=f.map (λz=>V.ref z.2)/\f.map (·.1)=i/\∀z∈f,SqT K F z.2 (z.1.map V.int)/\isPr z.1=true
 |[],_,_,h,e=>by
  cases e;exact⟨[],h.inv_nil,rfl,λz g=>by cases g⟩
 |d::l,_,_,h,e=>by
  unfold zmc at e;obtain⟨k,n,o⟩:=Za.mp e
  obtain⟨i,p,s⟩:=Zb.mp o
  subst s;obtain⟨a,b,ed,u⟩:=zyf n
  obtain⟨v,J,ev,q,r⟩:=h.inv_cons
  obtain⟨f,w,A,B⟩:=zsy r p
  rw[ed] at q;obtain⟨t,L,C,m,E⟩:=q.tup
  obtain⟨M,N,G,H,I⟩:=E.two
  rw[G,H.int,I.int] at m;refine⟨(k,t)::f,by rw[ev,C,w];rfl,by rw[<-A];rfl,λz g=>?_⟩
  rcases Zg.mp g with e|g
  ·subst e;rw[u];exact⟨m,rfl⟩
  ·exact B z g
theorem zna:∀{d:List (List Int×Addr)}{e:List Value},Vals (d.map λz=>V.ref z.2) e->e=d.map λz=>Value.ref z.2
 |[],_,h=>by cases h;rfl
 |z::d,_,h=>by
  cases h with
  |cons f g=>rw[show _=Value.ref z.2 from f,zna g];rfl
theorem zvr:∀(d:List (List Int×Addr)),Vals (d.map λz=>V.ref z.2) (d.map λz=>Value.ref z.2)
 |[]=>.nil
 |z::d=>.cons rfl (zvr d)
theorem zrn{d:Program}{w:World}:∀{k:List Int}{f:List Value},Vals (k.map V.int) f->ItemsAre (intKind d w) k f
 |[],_,h=>by cases h;exact .nil
 |i::k,_,h=>by
  cases h with
  |cons g j=>
   obtain⟨t,e⟩:=g
   subst e;exact .cons (by show Value.isInt i (.int i t)=true;simp[Value.isInt]) (zrn j)
def Inv.tk{pins σ H s}{z:List Int×Addr}(I:Inv X pins σ H s)(h:SqT X.K H z.2 (z.1.map V.int)):IsTK X.prog X.w s.heap z.1 z.2:=by
 obtain⟨d,r,⟨o,e,f,n,g⟩,_⟩:=I.tuple h
 exact⟨o,d.toArray,n,e,f,g,zrn r⟩
end
open PySem L2 PyProof.Rows
section
variable{prog:Program}{w:World}{A:Around}{E:Value->Shared->Prop}{s:Shared}
end
section
variable{X:Cx}{e:Expr}{es:List Expr}{ρ:Rho}{pos:Pos}{w:W}
def yck{x y:Str}{p G o:Pos}{f g:String}{t:TA}{r:List V->Hp->VK->Prop}(J:∀d s i H j n Q,Inv X d i H s->Vals j n->r j H Q->wpAny (model X.prog X.w) X.A (call (.type g) n) (λm q=>wpAny (model X.prog X.w) X.A (call (.type f) [m]) (EP X d i Q) X.xe q) X.xe s)
 (K:Gl X x)(u:X.mg x=none)(L:bootBuiltins x=some (.type f))(M:x ≠ "__name__")(v:(x == ("__debug__" : Str))=false)(z:Gl X y)(B:X.mg y=none)(C:bootBuiltins y=some (.type g))(D:y ≠ "__name__")(l:(y == ("__debug__" : Str))=false)(N:PA X (e::es) t)(O:Bf e=true)(E:es.all Bf=true):
  PE X (.Call (.Name x p) [.Call (.Name y G) (e::es) [] o] [] pos) (λi H Q=>t i H λj F=>r j F Q):=by
 intro d s i H Q I h;refine Qx (zef I K u L ?_ M v);refine Ys ?_;show wpAny _ _ (spliced ((false,eval (.Call (.Name y G) (e::es) [] o) X.env)::backTo pos (starEach [] X.env))) _ _ s;refine Gd ?_;refine Qx (zef I z B C ?_ D l);refine Ys (thn (N o d s i H _ I h) λn q ⟨j,F,P,R,S⟩=>?_) (Bl O) (zde E);exact thn (J d q i F j n Q P R S) λm T u=>Go u
def yhg(X:Cx)(f g:Value)(q:List D)(w:W):Prop:=∃r:List V->Hp->VK->Prop,(∀d s e H h n Q,Inv X d e H s->Vals h n->r h H Q->wpAny (model X.prog X.w) X.A (call g n) (λm t=>wpAny (model X.prog X.w) X.A (call f [m]) (EP X d e Q) X.xe t) X.xe s) /\
 ∀(i o H F:Hp) (e:L2.St) (ρ:Rho) (h:List V) (Q:VK),ER X.K i o F H e ρ->DenL X.K F q h->(∀p j l,Same F l->ER X.K i o l j e ρ->RW X.K i l j w p->Q p j)->r h H Q
def DE.nestT{x y:Str}{p t u:Pos}{f g:String}{o:List D}(v:yhg X (.type f) (.type g) o w)(z:Gl X x)(A:X.mg x=none)(B:bootBuiltins x=some (.type f))(C:x ≠ "__name__")(h:(x == ("__debug__" : Str))=false)(i:Gl X y)(j:X.mg y=none)(l:bootBuiltins y=some (.type g))(m:y ≠ "__name__")(d:(y == ("__debug__" : Str))=false)
 (E:DA X (e::es) ρ o)(G:Bf e=true)(n:es.all Bf=true):DE X (.Call (.Name x p) [.Call (.Name y t) (e::es) [] u] [] pos) ρ w:=λq s=>by
 obtain⟨r,I,J⟩:=v
 refine PE.mono (yck I z A B C h i j l m d (E q s) G n) λK H Q ⟨F,R,k⟩=>⟨F,R,λL M N O P S=>?_⟩
 exact J q s M N K ρ L Q P S λT U V W Y Z=>k T U V (O.trans W) Y Z
theorem DenL.rev{K:vE}{F:Hp}:∀{l:List D}{f:List V},DenL K F l f->DenL K F l.reverse f.reverse
 |[],_,h=>by rw[h.inv_nil];exact DenL.nil
 |d::l,_,h=>by
  obtain⟨v,g,e,q,r⟩:=h.inv_cons
  subst e;rw[Gw,Gw];exact(DenL.rev r).append (DenL.cons q DenL.nil)
def zzy{l:List D}:zes X (.type "tuple") [.lst l] (.val (.tup l)):=⟨_,zmp,λj m H F n ρ o Q R q k=>by
 obtain⟨v,e,q⟩:=q.one
 obtain⟨p,d,g,h,r⟩:=q.lst
 rw[g] at e;refine⟨p,d,e,.inl ⟨R.sub.seq h,λs i=>?_⟩⟩
 obtain⟨R2,f⟩:=R.lay (.tup d) i
 exact k _ _ _ f R2 (RW.v (Den.tup_mk (SqT.of Bm) (r.mono f)))⟩
end
open PySem L2 PyProof.Rows
section
variable{prog:Program}{w:World}{A:Around}{E:Value->Shared->Prop}{s:Shared}
abbrev IsZ2(h:Heap)(z TI TO T:Addr)(d:Bool):Prop:=
 h.get? z=some {cls:=.type "zip",dict:=none,data:=.fields #[rawInt T,.bool d,.bool false,.ref TI,.ref TO],slots:=#[]}
def ydn{a:Addr}{Q:Option Obj->Shared->Prop}(h:Q (s.heap.get? a) s):wpAny (model prog w) A (loadIfAlive a) Q E s:=λ_ _ _=>h
def zsa{z TI TO T:Addr}{g:Bool}{Q:Bool->Shared->Prop}(f:IsZ2 s.heap z TI TO T g)(l:∃o,s.heap.get? T=some o)(h:∀i,IsZ2 i z TI TO T true->Heap.SameBut z s.heap i->Q false {s with heap:=i}):
  wpAny (model prog w) A (Builtin.SmallTypes.ownedTupleIsFree (.ref z)) Q E s:=by
 obtain⟨o,m⟩:=l
 unfold Builtin.SmallTypes.ownedTupleIsFree;refine Zc (Y5 f rfl (x:=rawInt T) rfl ?_);show wpAny _ _ (loadIfAlive ((T:Int)).toNat >>= _) _ _ _;rw[Z1];refine Zc (ydn ?_);rw[m];simp only[Option.isNone_some,Y4,if_false];refine Zc (Y5 f rfl (x:=.bool g) rfl ?_);cases g with
 |true=>
  exact Zc (Zp (Zp (h _ f ⟨rfl,λ_ _=>rfl⟩)))
 |false=>
  refine Zc (Qw f vC λj d e=>?_);exact Zp (h _ d e)
structure ZA(z TI i1 i2 l1 l2:Addr):Prop where
 TIz:TI≠z
 i1z:i1≠z
 i2z:i2≠z
 TIi1:TI≠i1
 TIi2:TI≠i2
 i12:i1≠i2
 l1z:l1≠z
 l1i1:l1≠i1
 l1i2:l1≠i2
 l2z:l2≠z
 l2i1:l2≠i1
 l2i2:l2≠i2
def zvj{z TI TO T j l l1 l2:Addr}{S:Bool}{B C:Nat}{M N:Array Value}{x y:Value}{Q:Option Value->Shared->Prop}(D:ZA z TI j l l1 l2)(v:IsZ2 s.heap z TI TO T S)(U:∃o,s.heap.get? T=some o)(F:IsPair s.heap TI (.ref j) (.ref l))
 (V:s.heap.IsListIter j l1 B)(W:s.heap.IsListIter l l2 C)(G:s.heap.IsList l1 M)(H:s.heap.IsList l2 N)(X:M[B]? = some x)(Y:N[C]? = some y)
 (Z:∀m,IsZ2 m z TI TO T true->m.IsListIter j l1 (B+1)->m.IsListIter l l2 (C+1)->IsPair m s.heap.objs.size x y->m.objs.size=s.heap.objs.size+1 ->
   (∀c o,c≠z->c≠j->c≠l->s.heap.get? c=some o->m.get? c=some o)->Q (some (.ref s.heap.objs.size)) {s with heap:=m}):
  wpAny (model prog w) A (pyNext (.ref z)) Q E s:=by
 have u:s.TypeIs (.ref z) "zip" := ⟨_,v,rfl⟩;unfold pyNext;refine Zc (Uu (wpAny_callSpecial?_slot (name:=Str.ofString "__next__") u Qe (Qr Qe u Jn ?_ (Ji _))));show wpAny _ _ (field (.ref z) 2 >>= _) _ _ _;refine Zc (Y5 v rfl (x:=.bool false) rfl ?_);show wpAny _ _ (field (.ref z) 3 >>= _) _ _ _;refine Zc (Y5 v rfl (x:=.ref TI) rfl ?_);refine Zc (Wc F rfl ?_);show wpAny _ _ (Builtin.SmallTypes.ownedTupleIsFree (.ref z) >>= _) _ _ _;refine Zc (zsa v U λO n d=>?_);simp only[Y4,if_false];refine Zc ?_;rw[<-Ge];simp only[Kz,Jz];refine Zc (Zc (Ws ?_));show wpAny _ _ (Builtin.SmallTypes.nextOf (.ref j) >>= _) _ _ _;refine Zc (Jx (V.extBut d.extBut D.i1z) (G.extBut d.extBut D.l1z) X λP p h=>Zp (Zp ?_));refine Zc (Zc (Ws ?_));show wpAny _ _ (Builtin.SmallTypes.nextOf (.ref l) >>= _) _ _ _;refine Zc (Jx ((W.extBut d.extBut D.i2z).extBut h.extBut D.i12.symm) ((H.extBut d.extBut D.l2z).extBut h.extBut D.l2i1) Y λf q i=>Zp (Zp (Zp ?_)));refine Zc (Vz ?_ (by show 2<=sizeLine;decide));have I:f.objs.size=s.heap.objs.size:=by rw[i.1,h.1,d.1]
 have kp:∀c o,c≠z->c≠j->c≠l->s.heap.get? c=some o->f.get? c=some o:=λc o J K L e=>i.extBut _ _ L (h.extBut _ _ K (d.extBut _ _ J e))
 have r:IsZ2 f z TI TO T true:=i.extBut _ _ D.i2z.symm (h.extBut _ _ D.i1z.symm n);have t:=p.extBut i.extBut D.i12;refine Zp ⟨_,rfl,Zp ?_⟩;show Q (some (.ref f.objs.size)) _;have g:(f.push {cls:=.type "tuple",data:=.seq #[x,y]}).get? f.objs.size=some {cls:=.type "tuple",data:=.seq #[x,y]}:=Zv _ rfl;have R:(f.push {cls:=.type "tuple",data:=.seq #[x,y]}).objs.size=f.objs.size+1:=Qn ..;rw[I] at g R |-;exact Z _ (Ze _ r) (t.at λo e=>Ze _ e) (q.at λo e=>Ze _ e) g R λc o J K L e=>Ze _ (kp c o J K L e)
def yaq{z TI TO T g i l1 l2:Addr}{B:Bool}{p C:Nat}{q F:Array Value}{Q:Option Value->Shared->Prop}(r:A.handled=none)(D:ZA z TI g i l1 l2)(j:IsZ2 s.heap z TI TO T B)(G:∃o,s.heap.get? T=some o)(l:IsPair s.heap TI (.ref g) (.ref i))
 (H:s.heap.IsListIter g l1 p)(R:s.heap.IsListIter i l2 C)(m:s.heap.IsList l1 q)(I:s.heap.IsList l2 F)(J:q[p]? = none)
 (K:∀t,(∀c o,c≠z->c≠g->c≠i->s.heap.get? c=some o->t.get? c=some o)->Q none {s with heap:=t}):wpAny (model prog w) A (pyNext (.ref z)) Q E s:=by
 have h:s.TypeIs (.ref z) "zip" := ⟨_,j,rfl⟩;unfold pyNext;refine Zc (Uu (wpAny_callSpecial?_slot (name:=Str.ofString "__next__") h Qe (Qr Qe h Jn ?_ (Ji _))));show wpAny _ _ (field (.ref z) 2 >>= _) _ _ _;refine Zc (Y5 j rfl (x:=.bool false) rfl ?_);show wpAny _ _ (field (.ref z) 3 >>= _) _ _ _;refine Zc (Y5 j rfl (x:=.ref TI) rfl ?_);refine Zc (Wc l rfl ?_);show wpAny _ _ (Builtin.SmallTypes.ownedTupleIsFree (.ref z) >>= _) _ _ _;refine Zc (zsa j G λu n d=>?_);simp only[Y4,if_false];refine Zc ?_;rw[<-Ge];simp only[Kz,Jz];refine Zc (Zc (Ws ?_));show wpAny _ _ (Builtin.SmallTypes.nextOf (.ref g) >>= _) _ _ _;refine Zc (G0 (by first|exact r|simp[r]) (H.extBut d.extBut D.i1z) (m.extBut d.extBut D.l1z) J λv e f L=>?_);obtain⟨o,M,N⟩:=L
 refine Zc (wpAny_isInstance (T := "StopIteration") (b:=true) ⟨o,M,N⟩ isSubtype_stop ?_);exact Zp (K _ λc o O P S e=>f _ _ P (d.extBut _ _ O e))
def zrj(h:Heap)(d e:Array Value)(f:List Addr):Prop:=∀(j:Nat) (t:Addr),f[j]? = some t->∃x y,d[j]? = some x/\e[j]? = some y/\IsPair h t x y
def yap{R:Result->Shared->Prop}{S z TI TO u v l1 l2:Addr}{m O:Array Value}(res:Value)(hh:A.in1.handled=none)(D:ZA z TI u v l1 l2)(a8:m.size=O.size)(hz:m.size<=sizeLine)(hS:∀b∈[z,TI,TO,u,v,l1,l2],S≠b):
  ∀(k i:Nat) (s:Shared) (d:Array Value) (c:Nat) (g:List Addr) (T:Addr) (f1:Bool),m.size-i=k->i<=m.size->IsZ2 s.heap z TI TO T f1->T∈g->IsPair s.heap TI (.ref u) (.ref v)->s.heap.IsListIter u l1 i->s.heap.IsListIter v l2 i->s.heap.IsList l1 m->s.heap.IsList l2 O ->
   s.heap.get? S=some {cls:=.type "list",dict:=none,data:=.seq d c,slots:=#[]}->d.toList=g.map Value.ref->g.length=i->zrj s.heap m O g->(∀t∈g,t≠z/\t≠u/\t≠v/\t≠S)->g.Nodup ->
   (∀p tk h c' f,(∀b o,b≠S->b≠z->b≠u->b≠v->s.heap.get? b=some o->p.get? b=some o)->p.get? S=some {cls:=.type "list",dict:=none,data:=.seq h c',slots:=#[]}->h.toList=f.map Value.ref->f.length=m.size->zrj p m O f->(∀t∈f,t∈g\/s.heap.objs.size<=t)->f.Nodup->R (.ok (.ret res)) {s with heap:=p,toks:=tk}) ->
   codeAny (model prog w) A (.builtin "list.extend.loop" ⟨[.ref S,.ref z,res],[]⟩) R s:=by
 intro k;have sz:S≠z:=hS z vC;have s1:S≠u:=hS u vC;have s2:S≠v:=hS v vC;have sT:S≠TI:=hS TI vC;have sl1:S≠l1:=hS l1 vC;have sl2:S≠l2:=hS l2 vC;induction k with
 |zero=>
  intro i s d c g T f1 hk hi Y Z B h1 h2 C E F G l P H L hR;have e:i=m.size:=by omega
  subst e;refine Kj Uk ?_;rw[W9 Qo _];show wpAny _ A.in1 (pyNext (.ref z) >>= _) _ _ s;have aT:∃o,s.heap.get? T=some o:=by
   obtain⟨j,Q⟩:=Qz Z
   obtain⟨x,y,_,_,e⟩:=P j T Q
   exact⟨_,e⟩
  refine Zc (yaq hh D Y aT B h1 h2 C E vC λp r=>?_);exact Zp (hR p s.toks d c g (λb o _ b2 b3 b4 e=>r b o b2 b3 b4 e) (r S _ sz s1 s2 F) G l (λj t e=>by
   obtain⟨x,y,U,V,M⟩:=P j t e
   obtain⟨t1,t2,t3,_⟩:=H t (Yg e)
   exact⟨x,y,U,V,r t _ t1 t2 t3 M⟩) (λt I=>.inl I) L)
 |succ k ih=>
  intro i s d c g T f1 hk hi Y Z B h1 h2 C E F G l P H L hR;have N:i<m.size:=by omega
  refine Kj Uk ?_;rw[W9 Qo _];show wpAny _ A.in1 (pyNext (.ref z) >>= _) _ _ s;have aT:∃o,s.heap.get? T=some o:=by
   obtain⟨j,Q⟩:=Qz Z
   obtain⟨x,y,_,_,e⟩:=P j T Q
   exact⟨_,e⟩
  have hx:m[i]? = some (m[i]'N):=W6 N;have hy:O[i]? = some (O[i]'vB):=W6 vB;refine Zc (zvj D Y aT B h1 h2 C E hx hy λp a1 a2 a3 a4 a5 r=>?_);have W:=r S _ sz s1 s2 F;have X:d.size=i:=by
   have:=congrArg List.length G
   rw[Qf,Zd,l] at this;exact this
  have K:S<s.heap.objs.size:=Zm F;show wpAny _ A.in1 (updateSeq S (·.push (.ref s.heap.objs.size)) >>= _) _ _ _;have up:∀b o,b≠S->p.get? b=some o->(p.update S (Obj.mapSeq (·.push (.ref s.heap.objs.size)))).get? b=some o:=λb o hb e=>(Yn _ _ (Wn hb)).trans e
  have J:∀{b o},s.heap.get? b=some o->b≠s.heap.objs.size:=λe=>Yc (Zm e)
  refine Zc ?_;refine Q1 W rfl (Zp ⟨Ki Qo _,ih (i+1) _ (d.push (.ref s.heap.objs.size)) _ (g++[s.heap.objs.size]) T true vB N (up z _ (Wn sz) a1) (Qy _ Z) (up TI _ (Wn sT) (r TI _ D.TIz D.TIi1 D.TIi2 B)) (a2.at λo e=>up u o (Wn s1) e) (a3.at λo e=>up v o (Wn s2) e)
   (C.at λo e=>up l1 o (Wn sl1) (r l1 o D.l1z D.l1i1 D.l1i2 e)) (E.at λo e=>up l2 o (Wn sl2) (r l2 o D.l2z D.l2i1 D.l2i2 e)) (Wh _ W rfl) ?_ (by rw[Z7,l];rfl) ?_ ?_ ?_ ?_⟩) (by rw[X];omega) (by show(d.push _).size<=sizeLine+1;rw[Array.size_push,X];omega)
  ·rw[Array.toList_push,G,Yl];rfl
  ·intro j t e;rcases Yf j g.length with q|q
   ·rw[Yt q] at e;obtain⟨x,y,U,V,M⟩:=P j t e
    obtain⟨t1,t2,t3,t4⟩:=H t (Yg e)
    exact⟨x,y,U,V,up t _ t4 (r t _ t1 t2 t3 M)⟩
   ·rw[Yb q] at e;have e0:j-g.length=0:=by
     cases q2:j-g.length with
     |zero=>rfl
     |succ n=>rw[q2] at e;simp at e
    rw[e0] at e;simp at e
    subst e;have ej:j=i:=by omega
    subst ej;exact⟨_,_,hx,hy,up _ _ (Z3 K) a4⟩
  ·intro t I;rcases Yh.mp I with I|I
   ·exact H t I
   ·rw[Zs.mp I];refine⟨(J Y).symm,?_,?_,(Z3 K)⟩
    ·obtain⟨_,e,_⟩:=h1;exact(J e).symm
    ·obtain⟨_,e,_⟩:=h2;exact(J e).symm
  ·refine Gx.mpr ⟨L,Y8 _ _,λa ha b hb e=>?_⟩;rw[Zs.mp hb] at e;obtain⟨j,Q⟩:=Qz ha
   obtain⟨x,y,_,_,M⟩:=P j a Q
   exact J M e
  ·intro a0 tk h c' f a6 U V M e4 e5 e6;have a7:(p.update S (Obj.mapSeq (·.push (.ref s.heap.objs.size)))).objs.size=s.heap.objs.size+1:=by rw[Kb,a5]
   refine hR a0 tk h c' f (λb o b1 b2 b3 b4 e=>a6 b o b1 b2 b3 b4 (up b o b1 (r b o b2 b3 b4 e))) U V M e4 (λt I=>?_) e6;rcases e5 t I with q|q
   ·rcases Yh.mp q with q|q
    ·exact .inl q
    ·exact .inr (by rw[Zs.mp q];exact Zk _)
   ·exact .inr (by
     have q':(p.update S (Obj.mapSeq (·.push (.ref s.heap.objs.size)))).objs.size<=t:=q;rw[a7] at q';exact Nat.le_of_succ_le q')
def ztn:typeLookup (.type "zip") "__len__" = pure none:=by rw[typeLookup_type,G6];kernel_rfl
def zpi:typeLookup (.type "zip") "__length_hint__" = pure none:=by rw[typeLookup_type,G6];kernel_rfl
def ane{a b:Nat}(h:a≠b):@Ne Addr a b:=h
def za_of{n l1 l2:Nat}(d:l1<n)(e:l2<n):ZA (n+4) (n+2) n (n+1) l1 l2:=by
 refine⟨?_,?_,?_,?_,?_,?_,?_,?_,?_,?_,?_,?_⟩<;>exact ane vB
def yfo{n l1 l2:Nat}(d:l1<n)(e:l2<n):ZipApart (n+4) (n+2) (n+3) n (n+1) l1 l2:=by
 refine⟨?_,?_,?_,?_,?_,?_,?_,?_,?_,?_,?_,?_,?_,?_,?_,?_,?_,?_⟩<;>exact ane vB
def zmq{z TI TO C G l1 l2:Addr}{r V:Array Value}{Q:Value->Shared->Prop}(hh:A.handled=none)(D:ZA z TI C G l1 l2)(g:ZipApart z TI TO C G l1 l2)(ae:r.size=V.size)(hz:r.size<=sizeLine)
 (hZ:IsZip s.heap z TI TO .none)(W:IsPair s.heap TI (.ref C) (.ref G))(X:IsPair s.heap TO .none .none)(h1:s.heap.IsListIter C l1 0)(h2:s.heap.IsListIter G l2 0)(Y:s.heap.IsList l1 r)(Z:s.heap.IsList l2 V)
 (hQ:∀i tk a0 c ts,(∀b o,b≠z->b≠TO->b≠C->b≠G->s.heap.get? b=some o->i.get? b=some o)->i.get? s.heap.objs.size=some {cls:=.type "list",dict:=none,data:=.seq a0 c,slots:=#[]}->a0.toList=ts.map Value.ref->ts.length=r.size->zrj i r V ts->(∀t∈ts,s.heap.objs.size<t)->ts.Nodup->Q (.ref s.heap.objs.size) {s with heap:=i,toks:=tk}):
  wpAny (model prog w) A (call (.type "list") [.ref z]) Q E s:=by
 have f:∀{b o},s.heap.get? b=some o->b<s.heap.objs.size:=λe=>Zm e
 have v:=f hZ;have K:=f W;have B:=f X;have l:C<s.heap.objs.size:=by obtain⟨_,e,_⟩:=h1;exact f e
 have m:G<s.heap.objs.size:=by obtain⟨_,e,_⟩:=h2;exact f e
 have L:l1<s.heap.objs.size:=by obtain⟨_,e,_⟩:=Y;exact f e
 have M:l2<s.heap.objs.size:=by obtain⟨_,e,_⟩:=Z;exact f e
 refine callType_codes (Q₁:=λa7 H=>a7=.ref s.heap.objs.size/\H={s with heap:=s.heap.push {cls:=.type "list",data:=.seq #[]} }) F.called_list (F.typeCall_list_1 _) F.entry_list_init
  (code_list_new _ ⟨rfl,rfl⟩) λa7 H a8=>?_
 obtain⟨rfl,rfl⟩:=a8
 have hS:(s.heap.push {cls:=.type "list",data:=.seq #[]}).get? s.heap.objs.size=some {cls:=.type "list",data:=.seq #[]}:=Zv _ rfl;refine⟨⟨_,hS,rfl⟩,F.args_list_init_2 _ _,?_⟩
 show wpAny _ A.in1.in1 (do let f <-Builtin.List.listItems (.ref s.heap.objs.size);Builtin.List.listUpdate (.ref s.heap.objs.size) (λ_=>#[]);letGo f.toList.reverse;Builtin.List.listExtendWith (.ref s.heap.objs.size) (.ref z) .none) _ _ _;refine Zc (listItems_at hS rfl ?_);refine Zc (Uv hS rfl ?_ (Yz _) (Yz _));have n:=Wh (Obj.mapSeq (λ_=>(#[]:Array Value))) hS rfl;have a9:((s.heap.push {cls:=.type "list",data:=.seq #[]}).update s.heap.objs.size (Obj.mapSeq (λ_=>(#[]:Array Value)))).objs.size=s.heap.objs.size+1:=by rw[Kb,Qn]
 have N:∀b o,b<s.heap.objs.size->s.heap.get? b=some o->((s.heap.push {cls:=.type "list",data:=.seq #[]}).update s.heap.objs.size (Obj.mapSeq (λ_=>(#[]:Array Value)))).get? b=some o:=
  λb o u e=>(Yn _ _ (Z3 u)).trans (Ze _ e)
 refine Zc (Ja ?_);generalize ai:(s.heap.push {cls:=.type "list",data:=.seq #[]}).update s.heap.objs.size (Obj.mapSeq (λ_=>(#[]:Array Value)))=H1 at *;unfold Builtin.List.listExtendWith;have O:Shared.TypeIs {s with heap:=H1} (.ref z) "zip" := ⟨_,N z _ v hZ,rfl⟩;refine Zc (wpAny_typeOf O ?_);have n1:Builtin.List.listSameRef (.ref s.heap.objs.size) (.ref z)=false:=by simp[Builtin.List.listSameRef,Z3 v]
 rw[if_neg (by rw[n1];decide)];refine Zc (Vh (N z _ v hZ) ?_);refine Zc (Ws ?_);unfold Builtin.List.listLengthHint;refine Zc (wpAny_specialOf O ztn ?_);show wpAny _ _ (specialOf (Value.ref z) (Str.ofString "__length_hint__") >>= _) _ _ _;refine Zc (wpAny_specialOf O zpi ?_);refine Zp ?_;show wpAny _ _ (rule "list.extend.makes-room" >>= λ_=>Builtin.List.listTouch (.ref s.heap.objs.size) >>= λ_=>again (.builtin "list.extend.loop" ⟨[.ref s.heap.objs.size,.ref z,.none],[]⟩)) _ _ _;refine Zc (Jk ?_);refine Zc ?_;show wpAny _ _ (updateSeq s.heap.objs.size (·.push .none) >>= λ_=>updateSeq s.heap.objs.size (·.pop)) _ _ _;refine Zc (Q1 n rfl ?_);have p:=Wh (Obj.mapSeq (·.push Value.none)) n rfl;refine Q1 (hz:=by seq_fits) p rfl ?_;have P:=Wh (Obj.mapSeq (·.pop)) p rfl;have d:∀b o,b<s.heap.objs.size->s.heap.get? b=some o->((H1.update s.heap.objs.size (Obj.mapSeq (·.push Value.none))).update s.heap.objs.size (Obj.mapSeq (·.pop))).get? b=some o:=
  λb o u e=>(Yn _ _ (Z3 u)).trans ((Yn _ _ (Z3 u)).trans (N b o u e))
 have aa:((H1.update s.heap.objs.size (Obj.mapSeq (·.push Value.none))).update s.heap.objs.size (Obj.mapSeq (·.pop))).objs.size=s.heap.objs.size+1:=by rw[Kb,Kb];exact a9
 generalize aj:(H1.update s.heap.objs.size (Obj.mapSeq (·.push Value.none))).update s.heap.objs.size (Obj.mapSeq (·.pop))=H2 at *;have S0:∃c0,H2.get? s.heap.objs.size=some {cls:=.type "list",dict:=none,data:=.seq #[] c0,slots:=#[]}:=⟨_,P⟩;obtain⟨c0,S0⟩:=S0
 have z2:=d z _ v hZ;have R:=d TI _ K W;have ab:=d TO _ B X;have g1:=h1.at λo e=>d C o l e
 have g2:=h2.at λo e=>d G o m e
 have S:=Y.at λo e=>d l1 o L e
 have T:=Z.at λo e=>d l2 o M e
 refine Zp ⟨Ki Qo _,Kj Uk ?_⟩;rw[W9 Qo _];show wpAny _ _ (pyNext (.ref z) >>= _) _ _ _;rcases Uh r.size with U|U
 ·refine Zc (wpAny_pyNext_zip_end (by simp[hh]) g z2 R ab g1 g2 S T (.inl (by simp[U])) λi I=>?_);exact Zp ⟨rfl,hQ i s.toks #[] c0 [] (λb o b1 b2 b3 b4 e=>I b o b1 b2 b3 b4 (d b o (f e) e)) (I _ _ (Z3 v) (Z3 B) (Z3 l) (Z3 m) S0) rfl (by rw[U];rfl) (λj t e=>by simp at e) (λt ht=>by cases ht) List.nodup_nil⟩
 ·have hx:r[0]? = some (r[0]'U):=W6 U;have hy:V[0]? = some (V[0]'vB):=W6 vB;refine Zc (wpAny_pyNext_zip_item g z2 R ab g1 g2 S T hx hy λi a1 a2 a3 a4 a5 a6 I=>?_);replace a1:IsZ2 i z TI TO H2.objs.size false:=a1
  replace a5:IsPair i H2.objs.size (r[0]'U) (V[0]'vB):=a5
  replace a6:i.objs.size=H2.objs.size+1:=a6
  show wpAny _ _ (updateSeq s.heap.objs.size (·.push (.ref H2.objs.size)) >>= _) _ _ _;rw[aa] at a1 a5 a6 |-;have S1:=I _ _ (Z3 v) (Z3 B) (Z3 l) (Z3 m) S0;refine Zc ?_;have up:∀b o,b≠s.heap.objs.size->i.get? b=some o->(i.update s.heap.objs.size (Obj.mapSeq (·.push (.ref (s.heap.objs.size+1))))).get? b=some o:=λb o u e=>(Yn _ _ (Wn u)).trans e
  have J:∀{b:Addr},b<s.heap.objs.size->b≠s.heap.objs.size:=λh=>Yc h
  refine Q1 S1 rfl (Zp ⟨Ki Qo _,yap .none (by simp[hh]) D ae hz (λb u=>?_) (r.size-1) 1 _ _ _ [s.heap.objs.size+1] (s.heap.objs.size+1) false rfl U (up z _ (J v) a1) (.head _) (up TI _ (J K) (I TI _ g.TIz g.TITO g.TIi1 g.TIi2 R)) (a3.at λo e=>up C o (J l) e) (a4.at λo e=>up G o (J m) e)
   (S.at λo e=>up l1 o (J L) (I l1 o g.l1z g.l1TO g.l1i1 g.l1i2 e)) (T.at λo e=>up l2 o (J M) (I l2 o g.l2z g.l2TO g.l2i1 g.l2i2 e)) (Wh _ S1 rfl) rfl rfl (λj t e=>?_) (λt ht=>?_) (Y8 _ _) λaf tk ac c' ag ah e1 e2 e3 e4 e5 e6=>?_⟩)
  ·simp only[Zg,Zn,or_false] at u;rcases u with e|e|e|e|e|e|e<;>rw[e]
   ·exact Z3 v
   ·exact Z3 K
   ·exact Z3 B
   ·exact Z3 l
   ·exact Z3 m
   ·exact Z3 L
   ·exact Z3 M
  ·cases j with
   |zero=>
    simp at e
    subst e;exact⟨_,_,hx,hy,up _ _ (Ux _) a5⟩
   |succ j=>simp at e
  ·rw[Zs.mp ht];exact⟨Z3 (Km v),Z3 (Km l),Z3 (Km m),Ux _⟩
  ·refine⟨rfl,hQ af tk ac c' ag (λb o b1 b2 b3 b4 e=>ah b o (J (f e)) b1 b3 b4 (up b o (J (f e)) (I b o b1 b2 b3 b4 (d b o (f e) e)))) e1 e2 e3 e4 (λt ht=>?_) e6⟩
   rcases e5 t ht with q|q
   ·rw[Zs.mp q];exact Wj _
   ·have q':(i.update s.heap.objs.size (Obj.mapSeq (·.push (.ref (s.heap.objs.size+1))))).objs.size<=t:=q;rw[Kb,a6] at q';exact Zf (Km (Wj _)) q'
end
open PySem L2 PyProof.Rows
def updL(H:Hp):List (Addr×HO)->Hp
 |[]=>H
 |(a,o)::L=>upd (updL H L) a o
theorem zko{H:Hp}:∀{L:List (Addr×HO)}{a:Addr}{o:HO},updL H L a=some o->(a,o)∈L\/(H a=some o/\a∉L.map (·.1))
 |[],a,o,h=>.inr ⟨h,by simp⟩
 |(b,u)::L,a,o,h=>by
  unfold updL at h;by_cases e:a=b
  ·subst e;rw[Bm] at h;cases h;exact .inl (.head _)
  ·rw[Bk e] at h;rcases zko h with q|q
   ·exact .inl (.tail _ q)
   ·exact .inr ⟨q.1,by simp only[Zz,Zg,not_or];exact⟨e,q.2⟩⟩
theorem zcq{H:Hp}:∀{L:List (Addr×HO)}{a:Addr},a∉L.map (·.1)->updL H L a=H a
 |[],_,_=>rfl
 |(b,u)::L,a,h=>by
  simp only[Zz,Zg,not_or] at h;unfold updL;rw[Bk h.1];exact zcq h.2
theorem zvs{H:Hp}:∀{L:List (Addr×HO)}{a:Addr}{o:HO},(L.map (·.1)).Nodup->(a,o)∈L->updL H L a=some o
 |(b,u)::L,a,o,d,h=>by
  rw[Zz,Wq] at d;unfold updL;rcases Zg.mp h with e|h
  ·cases e;rw[Bm]
  ·have g:a≠b:=λe=>d.1 (e ▸ We (f:=(·.1)) h)
   rw[Bk g];exact zvs d.2 h
section
variable{X:Cx}{pins:List (Addr×Obj)}{σ:L2.St}{H:Hp}{s:Shared}{h':Heap}
def Inv.laidL{t':Nat}{L:List (Addr×HO)}(I:L2.Inv X pins σ H s)(k:∀b u,s.heap.get? b=some u->h'.get? b=some u)(j:∀p∈L,s.heap.objs.size<=p.1)(h:∀p∈L,ObjOk X.prog X.w (updL H L) h' p.1 p.2):
  L2.Inv X pins σ (updL H L) {s with heap:=h',toks:=t'}:=by
 have g:∀b,(∃u,s.heap.get? b=some u)->b∉L.map (·.1):=λb ⟨u,e⟩ i=>by
  obtain⟨p,f,rfl⟩:=Z5.mp i
  exact Wm _ (Zf (Zm e) (j p f))
 have m:∀p∈L,H p.1=none:=λp f=>I.hok.fresh (j p f)
 have d:∀b u,H b=some u->updL H L b=some u:=λb u e=>by
  rw[zcq λi=>by
   obtain⟨p,f,rfl⟩:=Z5.mp i
   rw[m p f] at e;cases e]
  exact e
 refine I.un (t':=t') ⟨λb u q _ _ _=>k b u q,λb u q _ _ _=>⟨u.slots,k b u q⟩,λb u q n _=>by rw[zcq (g b ⟨u,q⟩)];exact n,λb u q _=>⟨u,k b u q⟩,λb l q=>d b _ q,λb u l q=>d b _ q,λb r q=>⟨#[],by rw[d b _ q];simp⟩⟩ λa o e=>?_;rcases zko e with q|⟨q,_⟩
 ·exact h _ q
 ·exact(I.hok a o q).stay (λc v _ z=>k c v z) (λc z=>d c _ z) λc l z=>d c _ z
end
section
variable{K:vE}{H0 Fc F H:Hp}{σ:L2.St}{ρ:Rho}
theorem ER.layL:∀(L:List (Addr×HO)),ER K H0 Fc F H σ ρ->(L.map (·.1)).Nodup->(∀p∈L,H p.1=none)->ER K H0 Fc (updL F L) (updL H L) σ ρ/\Same F (updL F L)
 |[],R,_,_=>⟨R,Same.refl _⟩
 |(a,o)::L,R,d,e=>by
  rw[Zz,Wq] at d;obtain⟨f,g⟩:=ER.layL L R d.2 λp h=>e p (.tail _ h)
  obtain⟨R2,i⟩:=f.lay (a:=a) o (by rw[zcq d.1];exact e (a,o) (.head _))
  exact⟨R2,g.trans i⟩
end
def zipD(a b:List D):List D:=(a.zip b).map λp=>D.tup [p.1,p.2]
def zipL(d:List Addr)(e:List (V×V)):List (Addr×HO):=(d.zip e).map λz=>(z.1,HO.tup [z.2.1,z.2.2])
def zrk{d:List Addr}{e:List (V×V)}(h:d.length=e.length):(zipL d e).map (·.1)=d:=by
 unfold zipL;rw[Yd];show(d.zip e).map (λz=>z.1)=d;exact List.map_fst_zip vB
theorem zzc{K:vE}{F:Hp}:∀{a b:List D}{f g:List V}{e:List Addr}{G:Hp},DenL K F a f->DenL K F b g->f.length=g.length->e.length=f.length->Same F G->(∀p∈zipL e (f.zip g),G p.1=some p.2)->DenL K G (zipD a b) (e.map V.ref)
 |[],b,f,g,e,G,j,l,h,i,s,m=>by
  have z:=j.inv_nil;subst z;have:e=[]:=Vp.mp (by simpa using i)
  subst this;exact DenL.nil
 |d::a,b,f,g,e,G,j,l,h,i,s,m=>by
  obtain⟨v,E,z,q,r⟩:=j.inv_cons
  subst z;cases b with
  |nil=>rw[l.inv_nil] at h;cases h
  |cons H b=>
   obtain⟨n,o,u,w,A⟩:=l.inv_cons
   subst u;cases e with
   |nil=>cases i
   |cons t e=>
    have B:=m (t,HO.tup [v,n]) (.head _);refine DenL.cons (Den.tup_mk (SqT.of B) (DenL.cons (q.mono s) (DenL.cons (w.mono s) DenL.nil))) ?_;exact zzc r A (by simpa using h) (by simpa using i) s λp C=>m p (.tail _ C)
theorem zpj:∀{d:List V}{f:List Value},Vals d f->∀(j:Nat) (u:Value),f[j]? = some u->∃x,d[j]? = some x/\RelV x u
 |[],_,h,j,u,e=>by cases h;simp at e
 |x::d,_,h,0,u,e=>by
  cases h with
  |cons g i=>simp at e;subst e;exact⟨x,rfl,g⟩
 |x::d,_,h,j+1,u,e=>by
  cases h with
  |cons g i=>
   obtain⟨y,l,m⟩:=zpj i j u (by simpa using e)
   exact⟨y,by simpa using l,m⟩
theorem zrm:∀d:List Addr,Vals (d.map V.ref) (d.map Value.ref)
 |[]=>.nil
 |t::d=>.cons rfl (zrm d)
section
variable{X:Cx}
def yct{a b:List D}(hX:X.calm=true)(a8:a.length=b.length):yhg X (.type "list") (.type "zip") [.lst a,.lst b] (.new (zipD a b)):=by
 refine⟨λU H Q=>∃p q f g,U=[.ref p,.ref q]/\SqL X.K H p f/\SqL X.K H q g/\f.length=g.length/\∀(l:Addr) (d:List Addr),d.length=f.length->(l::d).Nodup->(∀t∈l::d,H t=none)->Q (.ref l) (upd (updL H (zipL d (f.zip g))) l (.lst (d.map V.ref))),λM s σ H U us Q I r h=>?_,λH0 Fc H F σ ρ U Q R q k=>?_⟩
 ·obtain⟨p,q,f,g,rfl,W,Y,a9,hq⟩:=h
  cases r with
  |cons r1 r=>
   cases r with
   |cons r2 r=>
    cases r;cases r1;cases r2;obtain⟨a6,v1,A,z1⟩:=I.list W
    obtain⟨a7,v2,B,z2⟩:=I.list Y
    have n1:=v1.length;have n2:=v2.length;have lp:p<s.heap.objs.size:=by obtain⟨o,Z,_⟩:=A.isList;exact Zm Z
    have lq:q<s.heap.objs.size:=by obtain⟨o,Z,_⟩:=B.isList;exact Zm Z
    refine call_zip_2 A.isList B.isList λC g1 g2 g3 g4 g5 g6 E=>?_;refine zmq (s:={s with heap:=C}) (I.ok.hd hX) (za_of lp lq) (yfo lp lq) (by simp only[Zl];omega) (by simp only[Zl];omega) g1 g2 g3 g4 g5 (A.isList.at λo e=>E _ o e) (B.isList.at λo e=>E _ o e) λP tk a0 c d a1 e1 e2 e3 e4 e5 e6=>?_;have aa:∀n:Nat,(s.heap.objs.size+n:Addr)≠s.heap.objs.size\/n=0:=λn=>by
     rcases Uh n with z|z
     ·exact .inr z
     ·exact .inl (ane vB)
    have le:s.heap.objs.size<=C.objs.size:=by rw[g6];exact Qm _ _
    have J:d.length=f.length:=by rw[e3,Zl,<-n1]
    have kp:∀b u,s.heap.get? b=some u->P.get? b=some u:=λb u e=>by
     have S:=Zm e;exact a1 b u (Yc (Zf S (Qm _ 4))) (Yc (Zf S (Qm _ 3))) (Yc S) (Yc (Km S)) (E b u e)
    have N:∀t∈C.objs.size::d,s.heap.objs.size<=t:=λt G=>by
     rcases Zg.mp G with e|G
     ·rw[e];exact le
     ·exact Wd le (Uq (e5 t G))
    have L:(C.objs.size::d).Nodup:=Wq.mpr ⟨λhm=>Wm _ (e5 _ hm),e6⟩;have zl:(f.zip g).length=f.length:=by rw[Jm];omega
    have i:(zipL d (f.zip g)).map (·.1)=d:=zrk (by rw[zl];exact J);have a2:∀t∈d,t∈(zipL d (f.zip g)).map (·.1):=λt G=>by rw[i];exact G
    show EP X M σ Q (.ref C.objs.size) {s with heap:=P,toks:=tk};refine⟨.ref C.objs.size,updL H ((C.objs.size,HO.lst (d.map V.ref))::zipL d (f.zip g)),Inv.laidL (t':=tk) I kp (λO m=>?_) (λO m=>?_),rfl,hq _ d J L λt G=>I.hok.fresh (N t G)⟩
    ·refine N _ ?_;rcases Zg.mp m with e|hm
     ·rw[e];exact .head _
     ·exact .tail _ (by rw[<-i];exact We hm)
    ·rcases Zg.mp m with e|hm
     ·rw[e];show ObjOk X.prog X.w _ P _ (.lst (d.map V.ref));refine⟨by rw[Zd,J];exact z1,d.map Value.ref,c,zrm d,?_⟩
      have:a0=(d.map Value.ref).toArray:=by apply Ks.mp;rw[e2]
      rw[<-this];exact e1
     ·unfold zipL at hm;obtain⟨T,hz,e⟩:=Z5.mp hm
      obtain⟨j,hj⟩:=Qz hz
      rw[Q5] at hj;obtain⟨j1,j2⟩:=hj
      rw[Q5] at j2;obtain⟨x,y,x1,x2,x3⟩:=e4 j T.1 j1
      obtain⟨vx,ex,rx⟩:=zpj v1 j x (by simpa using x1)
      obtain⟨vy,ey,ry⟩:=zpj v2 j y (by simpa using x2)
      rw[j2.1] at ex;rw[j2.2] at ey;cases ex;cases ey;rw[<-e];show ObjOk X.prog X.w _ P T.1 (.tup [T.2.1,T.2.2]);exact⟨by show 2<=sizeLine;decide,[x,y],.cons rx #v[ry],_,x3,rfl,0,rfl⟩
 ·obtain⟨v,u,e,q1,q2⟩:=q.two
  obtain⟨p,f,e1,a3,d1⟩:=q1.lst
  obtain⟨p2,g,e2,a4,d2⟩:=q2.lst
  rw[e1,e2] at e;have l1:=d1.length;have l2:=d2.length;refine⟨p,p2,f,g,e,R.sub.seq a3,R.sub.seq a4,by omega,λl d J L hn=>?_⟩
  rw[Wq] at L;have zl:(f.zip g).length=f.length:=by rw[Jm];omega
  have i:(zipL d (f.zip g)).map (·.1)=d:=zrk (by rw[zl];exact J);have a5:∀O∈zipL d (f.zip g),H O.1=none:=λO m=>hn _ (.tail _ (by rw[<-i];exact We m))
  obtain⟨R1,s1⟩:=ER.layL (zipL d (f.zip g)) R (by rw[i];exact L.2) a5
  have hl:updL H (zipL d (f.zip g)) l=none:=by
   rw[zcq (by rw[i];exact L.1)];exact hn l (.head _)
  obtain⟨R4,hF,h0⟩:=R1.put (.lst (d.map V.ref)) hl
  refine k _ _ _ s1 R4 (RW.n hF h0 Bm ?_);exact zzc d1 d2 vB J s1 λO m=>zvs (by rw[i];exact L.2) m
end
open PySem L2 PyProof.Rows
section
variable{prog:Program}{w:World}{A:Around}{E:Value->Shared->Prop}{s:Shared}
end
section
variable{X:Cx}{pos:Pos}
end
open PySem L2 PyProof.Rows
open PySem.SeqAt (EqAt)
def LtAt(A:Around)(s:Shared)(y x:Value)(b:Bool):Prop:=
 ∀(d:Program) (w:World) (E:Value->Shared->Prop) (Q:Value->Shared->Prop),Q (.bool b) s->wpAny (model d w) A (richCompare .Lt y x) Q E s
def fstD(d e f g:Bool):Bool:=if d=true then(if f=true then false else g) else e
def two_lt{l b:Addr}{q m r o:Value}{n n2:Nat}{dd dd2:Option Addr}{sl sl2:Array (Option Value)}(i z p B:Bool):
  Meets (Builtin.«tuple.__lt__» ⟨[.ref l,.ref b],[]⟩)
   (λA R s=>s.heap.get? l=some {cls:=.type "tuple",dict:=dd,data:=.seq #[q,m] n,slots:=sl}/\s.heap.get? b=some {cls:=.type "tuple",dict:=dd2,data:=.seq #[r,o] n2,slots:=sl2} /\
    EqAt A.in1 s q r i/\(i=false->LtAt A.in1 s q r z)/\(i=true->EqAt A.in1 s m o p/\(p=false->LtAt A.in1 s m o B)) /\
    R (.ok (.ret (.bool (fstD i z p B)))) s):=
 .of_wp λe w A R s h=>by
  obtain⟨C,g,d,D,os⟩:=s;obtain⟨E,F,G,H,t,h⟩:=h
  have K:=AutoSeq1.sub_tuple_tuple;wp_walk using Uz E,Uz F,wpAny_forIn_list _ (λrest b u=>b.1=none/\u=⟨C,g,d,D,os⟩ /\
   ((rest=[(q,r),(m,o)])\/(rest=[(m,o)]/\i=true)\/(rest=[]/\i=true/\p=true))) _
  case turn=>
   rintro⟨y,x⟩ rest b u ⟨j,rfl,f⟩
   rcases f with f|⟨f,v⟩|⟨f,_⟩
   ·cases f;refine Zc (G e w _ _ ?_);cases i with
    |true=>wp_walk;exact⟨rfl,rfl,.inr (.inl ⟨rfl,rfl⟩)⟩
    |false=>
     refine Zc (Jk (Zc (H rfl e w _ _ ?_)));wp_walk
     exact⟨_,rfl,h⟩
   ·cases f;subst v;obtain⟨t,I⟩:=t rfl
    refine Zc (t e w _ _ ?_);cases p with
    |true=>wp_walk;exact⟨rfl,rfl,.inr (.inr ⟨rfl,rfl,rfl⟩)⟩
    |false=>
     refine Zc (Jk (Zc (I rfl e w _ _ ?_)));wp_walk
     exact⟨_,rfl,h⟩
   ·cases f
  case fin=>
   rintro⟨L,M⟩ u ⟨j,rfl,f⟩
   simp only at j
   subst j;rcases f with f|⟨f,_⟩|⟨_,v,J⟩
   ·cases f
   ·cases f
   ·subst v;subst J;wp_walk
    exact⟨_,rfl,h⟩
  case h=>exact⟨rfl,rfl,.inl rfl⟩
def Reads.tup2{h:Heap}{v:Value}{x y:PyData}{g:List Addr}(r:Reads h v (.tuple [x,y]) g):∃l o u w n i j,v=.ref l/\h.get? l=some o/\o.cls=.type "tuple" /\ o.data=.seq #[u,w] n/\Reads h u x i/\Reads h w y j:=by
 cases r with
 |tuple m p q f=>
  rename_i a o s n;generalize e:s.toList=A at f;cases f with
  |cons t d=>
   cases d with
   |cons d z=>
    cases z;skip
    refine⟨a,o,_,_,n,_,_,rfl,m,p,?_,t,d⟩
    rw[q];congr 1
    exact Ks.mp (by rw[e])
section
variable{A:Around}{s:Shared}
def ykk{i j:Int}{t u:Tok}:LtAt A s (.int i t) (.int j u) (decide (i<j)):=λd w E Q h=>(PyProof.Rows.lt_int h:wpAny (model d w) A (compareOp .Lt (.int i t) (.int j u)) Q E s)
def lt_tup{v u:Value}{q r t z:PyData}{d e:List Addr}{f g i j:Bool}(P:Reads s.heap v (.tuple [q,r]) d)(R:Reads s.heap u (.tuple [t,z]) e)(S:A.units<cLine)
 (B:∀v u d e,Reads s.heap v q d->Reads s.heap u t e->EqAt A.in1 s v u f/\LtAt A.in1 s v u g)(C:∀v u d e,Reads s.heap v r d->Reads s.heap u z e->EqAt A.in1 s v u i/\LtAt A.in1 s v u j):LtAt A s v u (fstD f g i j):=by
 intro D w E Q h;obtain⟨l,⟨T,U,data,V⟩,X,Y,n,_,_,rfl,G,H,I,J,K⟩:=Reads.tup2 P
 obtain⟨b,⟨L,p,data2,sl2⟩,Z,q1,W,_,_,rfl,M,m,o,N,O⟩:=Reads.tup2 R
 simp only at H I m o
 subst H I m o;exact richCompare_meets_room (op:=.Lt) ⟨_,G,rfl⟩ ⟨_,M,rfl⟩ F.slot_tuple_lt F.entry_tuple_lt (F.args_tuple_lt_2 _ _) (two_lt (dd:=U) (dd2:=p) (sl:=V) (sl2:=sl2) (n:=n) (n2:=W) f g i j)
  ⟨G,M,(B _ _ _ _ J N).1,λ_=>(B _ _ _ _ J N).2,λ_=>⟨(C _ _ _ _ K O).1,λ_=>(C _ _ _ _ K O).2⟩,show Value.bool (fstD f g i j)≠Value.notImplemented/\Q (.bool (fstD f g i j)) s from⟨(λx=>nomatch x),h⟩⟩ S
def lt2(a c b d:Int):Bool:=fstD (a == b) (decide (a<b)) (c == d) (decide (c<d))
abbrev pd2(a c:Int):PyData:=.tuple [.int a,.int c]
def lt_pd2{v u:Value}{a c b d:Int}{e f:List Addr}(i:Reads s.heap v (pd2 a c) e)(j:Reads s.heap u (pd2 b d) f)(l:A.units<cLine):LtAt A s v u (lt2 a c b d):=by
 refine lt_tup i j l (λv u e f g h=>?_) λv u e f g h=>?_
 all_goals
  cases g;cases h
  exact⟨SeqAt.EqAt.int_int _ _ _ _,ykk⟩
end
def tupO:D->Option (List D)
 |.tup l=>some l
 |_=>none
def intO:D->Option Int
 |.int i=>some i
 |_=>none
def twoO:List D->Option (D×D)
 |[a,b]=>some (a,b)
 |_=>none
def prI(d:D):Option (Int×Int):=(tupO d).bind λl=>(twoO l).bind λp=>(intO p.1).bind λa=>(intO p.2).map λc=>(a,c)
def tupO_s{d:D}{l:List D}(h:tupO d=some l):d=.tup l:=by cases d<;>first|(cases h;rfl)|(cases h;done)
def ygm{d:D}{i:Int}(h:intO d=some i):d=.int i:=by cases d<;>first|(cases h;rfl)|(cases h;done)
def twoO_s{l:List D}{p:D×D}(h:twoO l=some p):l=[p.1,p.2]:=by
 cases l with
 |nil=>cases h
 |cons a l=>
  cases l with
  |nil=>cases h
  |cons b l=>
   cases l with
   |nil=>cases h;rfl
   |cons _ _=>cases h
def prI_s{d:D}{x:Int×Int}(h:prI d=some x):d=.tup [.int x.1,.int x.2]:=by
 obtain⟨l,e,h⟩:=Za.mp h
 obtain⟨p,f,h⟩:=Za.mp h
 obtain⟨a,g,h⟩:=Za.mp h
 obtain⟨c,i,h⟩:=Zb.mp h
 rw[tupO_s e,twoO_s f,ygm g,ygm i,<-h]
def nst(d:D):Option (Int×Int):=prI d
def ltN(x y:D):Bool:=match nst x,nst y with
 |some p,some q=>lt2 p.1 p.2 q.1 q.2
 |_,_=>false
def yka{x:D}{p:Int×Int}(h:nst x=some p):toP x=pd2 p.1 p.2/\dOk 49 x=true:=by
 rw[prI_s h];exact⟨by simp[toP,toPs],by simp[dOk,dOkL]⟩
def lt_nst{A:Around}{s:Shared}{v u:Value}{x y:D}{p q:Int×Int}{i j:List Addr}(d:nst x=some p)(f:nst y=some q)(g:Reads s.heap v (toP x) i)(h:Reads s.heap u (toP y) j)(l:A.units+8<cLine):LtAt A s v u (ltN x y):=by
 have e:ltN x y=lt2 p.1 p.2 q.1 q.2:=by unfold ltN;rw[d,f]
 rw[e];rw[(yka d).1] at g;rw[(yka f).1] at h;exact lt_pd2 g h vB
open PySem L2 PyProof.Rows
open PySem.SeqAt (EqAt)
def Ext(h d:Heap):Prop:=∀b o,h.get? b=some o->d.get? b=some o
section
variable{prog:Program}{w:World}{A:Around}{E:Value->Shared->Prop}{R:Result->Shared->Prop}{h₀:Heap}{I S l:Addr}{vs:List Value}
def zqs{h h':Heap}{f:Obj->Obj}(k:Ext h₀ h)(hS:h₀.get? S=none):Ext h₀ (h.update S f):=λb o e=>
 (Yn _ _ (λz:S=b=>by rw[z,e] at hS;cases hS)).trans (k b o e)
def zqt{h d:Heap}(k:Ext h₀ h)(f:h₀.get? I=none)(g:∀b o,b∉[I]->h.get? b=some o->d.get? b=some o):Ext h₀ d:=λb o e=>
 g b o (λz=>by rw[Zs.mp z,f] at e;cases e) (k b o e)
def yki(Y:A.handled=none)(t:Nat->Nat->Bool)(H:h₀.IsList l vs.toArray)(J:h₀.get? I=none)(hS:h₀.get? S=none)(u:S≠I)
 (B:∀i j M N (s:Shared),Ext h₀ s.heap->vs[i]? = some M->vs[j]? = some N->LtAt A.in1 s M N (t i j)):
  ∀(k j:Nat) (s:Shared) (g:Value) (c:Nat),vs.length-(j+1)=k->j+1<=vs.length->s.heap.IsListIter I l (j+1)->Ext h₀ s.heap->vs[argBest t j]? = some g ->
   s.heap.get? S=some (seqObj "list" #[g,g] c) ->
   (∀v h C,vs[argBest t (vs.length-1)]? = some v->Ext h₀ h->R (.ok (.ret v)) {s with heap:=h,toks:=C}) ->
   codeAny (model prog w) A (.builtin "min.loop" ⟨[.ref I,.none,.ref S],[]⟩) R s:=by
 have O:(toString "min" ++ toString ".loop" : String) = "min.loop" := by decide
 have Z:l≠I:=λz=>by
  obtain⟨o,q,_⟩:=H
  rw[z,J] at q;cases q
 have W:=Walks.list (prog:=prog) (w:=w) (A:=A.in1) Y I l Z vs.toArray;have P:vs.toArray.size=vs.length:=Zl ..;have Q:S∉[I]:=by simpa using u
 intro k;induction k with
 |zero=>
  intro j s g c hk hj K D F E G;have T:j+1=vs.length:=by omega
  refine Kj Vc ?_;rw[W9 Qq _];show wpAny _ A.in1 (seqItems? (.ref S) >>= _) _ _ s;refine Zc (Wc E rfl ?_);show wpAny _ A.in1 (tryCatch (pyNext (.ref I)) _ >>= _) _ _ s;refine Zc (Ul (W.done s _ _ ⟨by rw[P,<-T];exact K,H.at λo q=>D _ _ q⟩ λh C d=>?_));show wpAny _ A.in1 (updateSeq S (λ_=>#[]) >>= _) _ _ _;refine Zc (Q1 (d S _ Q E) rfl (Zc (Ja (Zp ?_))));exact G g _ C (by rw[<-T];exact F) (zqs (h':=h) (zqt D J d) hS)
 |succ k U=>
  intro j s g c hk hj K D F E G;have m:j+1<vs.length:=by omega
  refine Kj Vc ?_;rw[W9 Qq _];show wpAny _ A.in1 (seqItems? (.ref S) >>= _) _ _ s;refine Zc (Wc E rfl ?_);show wpAny _ A.in1 (tryCatch (pyNext (.ref I)) _ >>= _) _ _ s;refine Zc (Ul (W.item (j+1) s _ _ (by rw[P];exact m) ⟨K,H.at λo q=>D _ _ q⟩ λv h C hP V d=>?_));have X:vs[j+1]? = some v:=by simpa using hP
  have n:=zqt D J d;have p:=d S _ Q E;show wpAny _ A.in1 (tryCatch (holding [v,v] (richCompare .Lt v g >>= _)) _ >>= _) _ _ _;refine Zc (Ul (Ws (Zc (B (j+1) (argBest t j) v g {s with heap:=h,toks:=C} n X F prog w _ _ ?_))));refine Zc (Ws (Q7 (Zc (Ja (Zp ?_)))));cases q:t (j+1) (argBest t j) with
  |true=>
   simp only[if_true];refine Zc (Q1 p rfl (Zc (Ja ?_)));rw[O];refine Zp ⟨Ki Qq _,U (j+1) _ v _ vB m (V.1.at λo e=>(Yn _ _ u).trans e) (zqs (h':=h) n hS) (by simp only[argBest,q,if_true];exact X) (get?_update_seq p λ_=>#[v,v]) λL r f=>G L r f⟩
  |false=>
   simp only[Y4,if_false];refine Zc (Ja ?_);rw[O];refine Zp ⟨Ki Qq _,U (j+1) _ g c vB m V.1 n (by simp only[argBest,q,Y4,if_false];exact F) p λL r f=>G L r f⟩
def ycx{s:Shared}(B:A.handled=none)(p:Nat->Nat->Bool)(r:h₀.IsList l vs.toArray)(t:h₀.get? I=none)(hS:h₀.get? S=none)(d:S≠I)(C:0<vs.length)
 (f:∀i j D E (s:Shared),Ext h₀ s.heap->vs[i]? = some D->vs[j]? = some E->LtAt A.in1 s D E (p i j))(J:s.heap.IsListIter I l 0)(F:Ext h₀ s.heap)(G:s.heap.get? S=some (seqObj "list" #[] 0))
 (K:∀v n H,vs[argBest p (vs.length-1)]? = some v->Ext h₀ n->R (.ok (.ret v)) {s with heap:=n,toks:=H}):codeAny (model prog w) A (.builtin "min.loop" ⟨[.ref I,.none,.ref S],[]⟩) R s:=by
 have L:(toString "min" ++ toString ".loop" : String) = "min.loop" := by decide
 have M:l≠I:=λz=>by
  obtain⟨o,q,_⟩:=r
  rw[z,t] at q;cases q
 have W:=Walks.list (prog:=prog) (w:=w) (A:=A.in1) B I l M vs.toArray;have N:vs.toArray.size=vs.length:=Zl ..;refine Kj Vc ?_;rw[W9 Qq _];show wpAny _ A.in1 (seqItems? (.ref S) >>= _) _ _ s;refine Zc (Wc G rfl ?_);show wpAny _ A.in1 (tryCatch (pyNext (.ref I)) _ >>= _) _ _ s;refine Zc (Ul (W.item 0 s _ _ (by rw[N];exact C) ⟨J,r.at λo q=>F _ _ q⟩ λv n H O P g=>?_));have Q:vs[0]? = some v:=by simpa using O
 have h:=g S _ (by simpa using d) G;show wpAny _ A.in1 (updateSeq S (λ_=>#[v,v]) >>= _) _ _ _;refine Zc (Q1 h rfl ?_);rw[L];exact Zp ⟨Ki Qq _,yki B p r t hS d f _ 0 _ v _ rfl C (P.1.at λo e=>(Yn _ _ d).trans e) (zqs (h':=n) (zqt F t g) hS) Q (get?_update_seq h λ_=>#[v,v]) λT u m=>K T u m⟩
def ykj{s:Shared}{Q:Value->Shared->Prop}(u:A.handled=none)(m:Nat->Nat->Bool)(p:s.heap.IsList l vs.toArray)(z:0<vs.length)
 (g:∀i j q r (t:Shared),Ext s.heap t.heap->vs[i]? = some q->vs[j]? = some r->LtAt A.in1 t q r (m i j))
 (B:∀v h n,vs[argBest m (vs.length-1)]? = some v->Ext s.heap h->Q v {s with heap:=h,toks:=n}):wpAny (model prog w) A (call (.builtin "min") [.ref l]) Q E s:=by
 have C:(toString "min" ++ toString ".loop" : String) = "min.loop" := by decide
 refine call_function_tree F.kind_min F.plain_min F.entry_min (F.args_min1 _) ?_;show wpAny _ A.in1 (Builtin.Builtins.bindParams "min" ["key","default"] 0 ⟨[],[]⟩ >>= _) _ _ s;refine Zc (wpAny_of_eq (show Builtin.Builtins.bindParams "min" ["key","default"] 0 ⟨[],[]⟩=pure [none,none] from rfl) ?_);refine Zc (Zp ?_);refine Zc (U3 p ?_);refine Zc (Gg ?_ (Yz _));rw[C];have up:∀d f,Ext s.heap ((s.heap.push d).push f):=λd f b x e=>Ze _ (Ze _ e)
 have D:s.heap.get? s.heap.objs.size=none:=Jw (Zk _);have G:∀o,s.heap.get? (s.heap.push o).objs.size=none:=λo=>Jw (by rw[size_push'];exact Jg _)
 have H:∀o,(s.heap.push o).objs.size≠s.heap.objs.size:=λo=>by rw[size_push'];exact Z3 (Wj _)
 exact Zp ⟨Ki Qq _,ycx u m p D (G _) (H _) z g ⟨_,Ze _ (Zv _ rfl),rfl,rfl⟩ (up _ _) (Zv _ rfl) λv h n a b=>B v h n a b⟩
end
section
variable{X:Cx}
def zul(l:List D):Nat:=argBest (λi j=>ltN (l.getD i .non) (l.getD j .non)) (l.length-1)
def minN(l:List D):Option D:=if (l.all λd=>(nst d).isSome)=true then l[zul l]? else none
def ykb{l:List D}(h:(l.all λd=>(nst d).isSome)=true){d:D}(e:d∈l):∃p,nst d=some p:=U7.mp (Us.mp h d e)
def zzr(W:X.calm=true)(hu:X.A.units+64<cLine):zgi X (.builtin "min") (λR H Q=>∃a F t l r,R=[.ref a]/\Same F H/\SqL X.K F a t/\DenL X.K F l t/\minN l=some r/\∀v,Den X.K F r v->Q v H):=by
 intro pins s σ H R us Q I r ⟨a,F,t,l,d,e,S,Y,L,o,q⟩;subst e;obtain⟨u,e,Z⟩:=zia r
 subst e;cases Z;obtain⟨g,M,pl,hz⟩:=I.list (S.seq Y)
 unfold minN at o;split at o
 ·rename_i w;have B:t.length=l.length:=L.length;have C:t.length=g.length:=M.length;have a0:zul l<l.length:=by
   rcases Yf (zul l) l.length with h|h
   ·exact h
   ·rw[Yp h] at o;cases o
  have T:∀i D,g[i]? = some D->∃m E p,l[i]? = some m/\nst m=some p/\Reads s.heap D (toP m) E:=λi D G=>by
   have a1:i<g.length:=(Zo.mp G).1;obtain⟨m,n⟩:∃m,l[i]? = some m:=⟨_,Zh vB⟩
   obtain⟨y,N,O⟩:=L.get n
   obtain⟨z,f,P⟩:=M.get N
   rw[G] at f;cases f;obtain⟨p,U⟩:=ykb w (Yg n)
   obtain⟨E,ra⟩:=zbw I S 49 m (yka U).2 O P
   exact⟨m,E,p,n,U,ra⟩
  refine ykj (I.ok.hd W) (λi j=>ltN (l.getD i .non) (l.getD j .non)) pl.isList vB (λi j D vj s' J G hj=>?_) λv h' tk V J=>?_
  ·obtain⟨m,E,p,h1,h2,h3⟩:=T i D G
   obtain⟨dj,bs,q,k1,k2,k3⟩:=T j vj hj
   rw[Zx,Zx,h1,k1];exact lt_nst h2 k2 (Reads.keeps J h3) (Reads.keeps J k3) (by rw[Gp];omega)
  ·rw[<-C,B] at V;obtain⟨y,N,O⟩:=L.get o
   obtain⟨z,f,P⟩:=M.get N
   rw[show g[zul l]? = some v from V] at f;cases f;exact⟨y,H,I.kept J,P,q y O⟩
 ·cases o
def yeu{l:List D}{d:D}(f:X.calm=true)(g:X.A.units+64<cLine)(h:minN l=some d):zes X (.builtin "min") [.lst l] (.val d):=⟨_,zzr f g,λo s H F t u w Q R q k=>by
 obtain⟨v,e,q⟩:=q.one
 obtain⟨p,i,j,m,r⟩:=q.lst
 rw[j] at e;exact⟨p,F,i,l,d,e,R.sub,m,r,h,λv n=>k v H F (Same.refl _) R (RW.v n)⟩⟩
def idxD(l:List D)(y:D):Option Nat:=if (dOkL 49 l && dOk 50 y)=true then l.findIdx? (λd=>eqD d y) else none
def idxW:D->D->Option W
 |.lst l,y=>(idxD l y).map λ(k:Nat)=>W.val (.int (k:Int))
 |_,_=>none
theorem zta:∀{l:List D}{n:Nat}{d:D},dOkL n l=true->d∈l->dOk n d=true
 |d::l,n,e,h,f=>by
  simp only[dOkL,Zj] at h;rcases Zg.mp f with z|z
  ·rw[z];exact h.1
  ·exact zta h.2 z
def ycv(hu:X.A.units+64<cLine):MtR X "list.index" (λx Z H Q=>∃a F C l y v k,x=.ref a/\Z=[v]/\Same F H/\SqL X.K F a C/\DenL X.K F l C/\Den X.K F y v/\idxD l y=some k/\Q (.int (k:Int)) H):=by
 intro pins s σ H x Z vv us Q I rx r ⟨a,F,C,l,y,v,k,e,e2,R,sq,dn,dy,N,q⟩;subst e;subst e2;obtain⟨u,e,r1⟩:=zia r
 subst e;cases rx;obtain⟨f,rv,pl,hz⟩:=I.list (R.seq sq)
 unfold idxD at N;split at N
 ·rename_i p;rw[Zj] at p;obtain⟨⟨a4,dd,data,sl⟩,ho,hc,n,E⟩:=id pl.isList
  simp only at hc E
  subst hc E;have a0:C.length=l.length:=dn.length;have a3:C.length=f.length:=rv.length;obtain⟨bs,ry⟩:=zbw I R 50 y p.2 dy r1
  have S:∀i T,f[i]? = some T->∃d G,l[i]? = some d/\dOk 49 d=true/\Reads s.heap T (toP d) G:=λi T hi=>by
   have a5:i<f.length:=(Zo.mp hi).1;obtain⟨d,t⟩:∃d,l[i]? = some d:=⟨_,Zh vB⟩
   obtain⟨y,hy,qy⟩:=dn.get t
   obtain⟨z,J,rz⟩:=rv.get hy
   rw[hi] at J;cases J;have ok:=zta p.1 (Yg t);obtain⟨G,ra⟩:=zbw I R 49 d ok qy rz
   exact⟨d,G,t,ok,ra⟩
  obtain⟨U,O,h3⟩:=Ue.mp N
  classical
  let e:Value->Bool:=λz=>decide (∃(i:Nat) (d:D),f[i]? = some z/\l[i]? = some d/\eqD d y=true)
  have h:∀i z d,f[i]? = some z->l[i]? = some d->e z=eqD d y:=λi z d h1 O=>by
   obtain⟨d1,a6,P,g,w⟩:=S i z h1
   rw[O] at P;cases P;cases q:eqD d y with
   |true=>exact decide_eq_true ⟨i,d,h1,O,q⟩
   |false=>
    refine decide_eq_false λ⟨j,dj,k1,k2,k3⟩=>?_;obtain⟨d2,a7,g2,V,W⟩:=S j z k1
    rw[k2] at g2;cases g2;have:=(reads_det (λb o e _=>e) w W).1
    rw[<-zqv 49 50 d y g p.2,<-this,zqv 49 50 dj y V p.2,k3] at q;cases q
  have L:k<f.toArray.size:=by simp only[Zl];omega
  have M:∀m (B:m<f.toArray.size) (hl:m<l.length),e f.toArray[m]=eqD l[m] y:=λm B hl=>
   h m _ _ (by simp only[List.getElem_toArray];exact Zh (by simpa using B)) (Zh hl)
  refine U4 U6 ⟨_,ho,rfl⟩ PySem.F.entry_list_index (PySem.F.args_list_index_2 _ _)
   (SeqAt.list_indexAt a f.toArray n dd sl u e k L ?_ ?_ ?_) ⟨ho,λz hz=>?_,?_⟩
  ·have:sizeLine<2^63-1:=by decide
   omega
  ·rw[M k L U];exact O
  ·intro m B Y;rw[M m B vB];simpa using h3 m Y
  ·obtain⟨m,B,ez⟩:=J1 (Ju.mpr hz)
   have gz:f[m]? = some z:=by rw[<-ez];exact Zh B
   obtain⟨d,G,P,g,w⟩:=S m z gz
   rw[h m z d gz P,<-zqv 49 50 d y g p.2];obtain⟨a1,b1⟩:=zup 49 d g
   obtain⟨a2,b2⟩:=zup 50 y p.2
   exact SeqAt.eqAt_reads (toP d) (toP y) X.A.in1 s z u G bs w ry a1 a2 (by rw[Gp];have:=Nat.min_le_left (toP d).depth (toP y).depth;omega)
  ·exact⟨.int (k:Int),H,I.tok _,⟨_,rfl⟩,q⟩
 ·cases N
def DE.idx{d:Rho}{x:Str}{p i j:Pos}{e:Expr}{l:List D}{y:D}{k:Nat}(z:X.A.units+64<cLine)(B:DF X (.Name x p) d (.lst l))(C:DF X e d y)(f:Bf e=true)(E:(i.endLine == j.line)=true)(G:idxD l y=some k):
  DE X (.Call (.Attribute (.Name x p) "index" i) [e] [] j) d (.val (.int (k:Int))):=λm n=>
 PE.mono (ycl (T := "list") Jc U6 PySem.F.type_list_index (ycv z) (B m n) (DA.cons C DA.nil f m n) (by rfl) (by rw[Bl f];rfl) E (Bl f) rfl) λW H Q ⟨F,R,q⟩=>
  ⟨F,R,λv Y I J o s=>by
   obtain⟨a,K,L,M,r⟩:=s.lst
   subst L;refine⟨.inl ⟨rfl,K,o.sub.seq M⟩,I,o,λZ N t w R2 O=>?_⟩
   obtain⟨u,P,S⟩:=O.one
   obtain⟨a',g,U,h,V⟩:=(s.mono w).lst
   cases U;exact⟨a,t,g,l,y,u,k,rfl,P,R2.sub,h,V,S,G,q _ N t (J.trans w) R2 RW.int⟩⟩
end
open PySem L2 PyProof.Rows
def zme:List D->Option (List Int)
 |[]=>some []
 |.int i::l=>(zme l).map λd=>i::d
 |_=>none
def sumI:List Int->Int
 |[]=>0
 |i::l=>i+sumI l
theorem zrq:∀l:List Int,sumI l=l.sum
 |[]=>rfl
 |i::l=>by rw[sumI,zrq l,Wf]
theorem zmd{K:vE}{F:Hp}:∀{l:List D}{f:List Int}{g:List V},zme l=some f->DenL K F l g->g=f.map V.int
 |[],_,_,h,q=>by cases h;rw[q.inv_nil];rfl
 |d::l,f,_,h,q=>by
  obtain⟨v,n,e,i,j⟩:=q.inv_cons
  subst e;cases d<;>first|(cases h;done)|skip
  obtain⟨r,m,e⟩:=Zb.mp h
  subst e;rw[Zz,i.int,zmd m j]
theorem zjf:∀{f:List Int}{g:List Value},Vals (f.map V.int) g->∃d:List (Int×Tok),g=d.map (λp=>Value.int p.1 p.2)/\d.map (·.1)=f
 |[],_,h=>by cases h;exact⟨[],rfl,rfl⟩
 |i::f,_,h=>by
  cases h with
  |cons j l=>
   obtain⟨t,e⟩:=j
   obtain⟨d,m,n⟩:=zjf l
   subst e;subst m;subst n;exact⟨(i,t)::d,rfl,rfl⟩
section
variable{X:Cx}
def zsj{d:List (Int×Tok)}:intItems d.toArray=(d.map λp=>Value.int p.1 p.2).toArray:=by
 unfold intItems;simp
def zqc:∀(d:List (Int×Tok)),preSum (numAt d.toArray) d.length=(d.map (·.1)).sum:=by
 intro d;have key:∀n,n<=d.length->preSum (numAt d.toArray) n=((d.map (·.1)).take n).sum:=by
  intro n;induction n with
  |zero=>intro _;simp[preSum]
  |succ n e=>
   intro f;rw[preSum,e vB,Q4,U0];have:(d.map (·.1))[n]? = some (numAt d.toArray n):=by
    have h:n<d.length:=by omega
    simp[numAt,h]
   rw[this];simp
 rw[key _ (Zk _),Jj vC]
def zzq(g:X.calm=true):zgi X (.builtin "sum") (λf H Q=>∃a d,f=[.ref a]/\SqL X.K H a (d.map V.int)/\Q (.int (sumI d)) H):=by
 intro pins s v H f w Q I r ⟨a,d,e,h,q⟩;subst e;obtain⟨u,e,i⟩:=zia r
 subst e;cases i;obtain⟨j,l,pl,z⟩:=I.list h
 obtain⟨m,n,o⟩:=zjf l
 subst n;have p:s.heap.IsList a (intItems m.toArray):=by rw[zsj];exact pl.isList
 refine sum_intListG (I.ok.hd g) p λA B t k=>⟨.int (sumI d),H,I.kept k,⟨t,?_⟩,q⟩
 rw[Zl,zqc,o,zrq]
def ymz{l:List D}{d:List Int}(g:X.calm=true)(h:zme l=some d):zes X (.builtin "sum") [.lst l] (.val (.int (sumI d))):=⟨_,zzq g,λj m H F n o s Q R q k=>by
 obtain⟨v,e,q⟩:=q.one
 obtain⟨p,t,i,f,r⟩:=q.lst
 rw[i] at e;rw[zmd h r] at f;exact⟨p,d,e,R.sub.seq f,k _ H F (Same.refl _) R RW.int⟩⟩
end
def Inv.turnedN{X:Cx}{pins:List (Addr×Obj)}{σ:L2.St}{H:Hp}{s:Shared}{l:Heap}{t:List Addr}{p:Addr}{o:HO}{E:Nat}(I:Inv X pins σ H s)(i:∀b∈t,FpOk X pins H b)
 (k:∀b d,b∉t->s.heap.get? b=some d->l.get? b=some d)(C:s.heap.objs.size<=p)(A:ObjOk X.prog X.w (upd H p o) l p o):Inv X pins σ (upd H p o) {s with heap:=l,toks:=E}:=by
 have B:∀{b:Addr}{d:Obj},s.heap.get? b=some d->b≠p:=λh z=>by
  have:=Zm h
  subst z;exact absurd (Zf this C) (Wm _)
 have e:∀{b:Addr}{u:HO},H b=some u->b≠p:=λh z=>by
  subst z;rw[I.hok.fresh C] at h;cases h
 refine I.step (g':=s.gens) (d':=s.drawn) (ch:=t) (λb f=>⟨(i b f).2.2.2.1,(i b f).2.1,(i b f).2.2.2.2.1,(i b f).2.2.2.2.2⟩) (λb d _ _ g q _=>k b d g q) (λb d _ _ g q _=>⟨d.slots,k b d g q⟩)
  (λb d g q n=>by rw[Bk (B q)];exact n) (λb d g q=>⟨d,k b d g q⟩) (λb D q=>by rw[Bk (e q)];exact q) (λb d D q=>by rw[Bk (e q)];exact q)
  (λb J q=>⟨#[],by rw[Bk (e q),q];simp⟩) (λm j=>?_) (λb u q=>?_) I.bare
 ·obtain⟨d,F,G,q,r⟩:=j
  exact⟨d,F,G,k _ d (λf=>(i _ f).2.1 rfl) q,r⟩
 ·by_cases f:b=p
  ·subst f;rw[Bm] at q;cases q;exact A
  ·rw[Bk f] at q;refine(I.hok b u q).stay (λc v g z=>k c v (λj=>?_) z) (λc z=>by rw[Bk (e z)];exact z) λc D z=>by rw[Bk (e z)];exact z
   rcases g with z|z
   ·subst z;rw[(i _ j).1] at q;cases q
   ·rw[(i _ j).1] at z;cases z
def Inv.turnedF{X:Cx}{pins:List (Addr×Obj)}{σ:L2.St}{H:Hp}{s:Shared}{j:Heap}{i:List Addr}{t':Nat}(I:Inv X pins σ H s)(d:∀b∈i,FpOk X pins H b)(k:∀b l,b∉i->s.heap.get? b=some l->j.get? b=some l):Inv X pins σ H {s with heap:=j,toks:=t'}:=by
 refine I.step (g':=s.gens) (d':=s.drawn) (ch:=i) (λb g=>⟨(d b g).2.2.2.1,(d b g).2.1,(d b g).2.2.2.2.1,(d b g).2.2.2.2.2⟩) (λb o _ _ f e _=>k b o f e) (λb o _ _ f e _=>⟨o.slots,k b o f e⟩) (λ_ _ _ _ n=>n)
  (λb o f e=>⟨o,k b o f e⟩) (λ_ _ e=>e) (λ_ _ _ e=>e) (λb A e=>⟨#[],by rw[e];simp⟩) (λm h=>?_) (λb u e=>?_) I.bare
 ·obtain⟨o,p,t,w,r⟩:=h
  exact⟨o,p,t,k _ o (λg=>(d _ g).2.1 rfl) w,r⟩
 ·refine(I.hok b u e).stay (λc v f q=>k c v (λh=>?_) q) (λ_ q=>q) λ_ _ q=>q
  rcases f with z|z
  ·subst z;rw[(d _ h).1] at e;cases e
  ·rw[(d _ h).1] at z;cases z
def yes:bootBuiltins "zip" = some (.type "zip"):=by decide +kernel
section
variable{X:Cx}{elts:List Expr}{x1:Nat}{tp:Pos}
end
open PySem L2 PyProof.Rows
def maxI:List Int->Option Int
 |[]=>none
 |[a]=>some a
 |a::l=>(maxI l).map λm=>if m<a then a else m
theorem zhs:∀{l:List Int}{m:Int},maxI l=some m->m∈l/\∀a∈l,a<=m
 |[],_,h=>by cases h
 |[a],m,h=>by cases h;exact⟨.head _,λb g=>by rw[Zs.mp g];exact Gn _⟩
 |a::b::l,m,h=>by
  unfold maxI at h;obtain⟨k,i,e⟩:=Zb.mp h
  obtain⟨j,f⟩:=zhs i
  by_cases z:k<a
  ·rw[if_pos z] at e;subst e;refine⟨.head _,λc d=>?_⟩
   rcases Zg.mp d with q|q
   ·omega
   ·have:=f c q;omega
  ·rw[if_neg z] at e;subst e;refine⟨.tail _ j,λc d=>?_⟩
   rcases Zg.mp d with q|q
   ·omega
   ·exact f c q
def zxu{l:List Int}{m M:Int}(h:maxI l=some m)(d:M∈l)(e:∀a,a∈l->a<=M):M=m:=by
 obtain⟨a,b⟩:=zhs h
 have:=b M d
 have:=e m a
 omega
section
variable{X:Cx}
def zzt(C:X.calm=true):zgi X (.builtin "max") (λw H Q=>∃a l m,w=[.ref a]/\SqL X.K H a (l.map V.int)/\maxI l=some m/\Q (.int m) H):=by
 intro pins s O H w P Q I r ⟨a,l,m,e,D,z,q⟩;subst e;obtain⟨u,e,E⟩:=zia r
 subst e;cases E;obtain⟨F,G,pl,R⟩:=I.list D
 obtain⟨d,J,g⟩:=zjf G
 subst J;have L:s.heap.IsList a (intItems d.toArray):=by rw[zsj];exact pl.isList
 have n:0<d.length:=by
  cases d with
  |nil=>subst g;cases z
  |cons x d=>exact Jq _
 refine max_intList (I.ok.hd C) L (by simpa using n) λv S T M k=>?_;obtain⟨t,ev⟩:=intItems_at M
 have A:=argBest_gt (numAt d.toArray) (d.toArray.size-1);subst ev;refine⟨.int m,H,I.kept k,⟨t,?_⟩,q⟩
 congr 1
 have B:argBest (λi j=>decide (numAt d.toArray i > numAt d.toArray j)) (d.toArray.size-1)<d.length:=by
  have:=A.1
  simp only[Zl] at this |-;omega
 have f:∀i (h:i<d.length),numAt d.toArray i=(d[i]).1:=λi h=>by simp[numAt,h]
 subst g;refine zxu z ?_ λb o=>?_
 ·rw[f _ B];exact We (Ka B)
 ·obtain⟨p,N,e⟩:=Z5.mp o
  obtain⟨i,h,g⟩:=J1 N
  subst g;subst e;have:=A.2 i (by simp only[Zl];omega)
  rw[f i h] at this;exact this
def yev{l:List D}{d:List Int}{m:Int}(g:X.calm=true)(h:zme l=some d)(i:maxI d=some m):zes X (.builtin "max") [.lst l] (.val (.int m)):=⟨_,zzt g,λn o H F s t u Q R q k=>by
 obtain⟨v,e,q⟩:=q.one
 obtain⟨p,w,j,f,r⟩:=q.lst
 rw[j] at e;rw[zmd h r] at f;exact⟨p,d,m,e,R.sub.seq f,i,k _ H F (Same.refl _) R RW.int⟩⟩
end
def Itv(K:vE)(a:Addr)(d:List V):It:=
 ⟨λi H=>SqL K H a d/\∃x,d.reverse[i]? = some x,λi H x e=>e=H/\d.reverse[i]? = some x,λi H=>SqL K H a d/\d.length<=i⟩
def yav{P:Program}{w:World}{K:vE}{U:Expr}(a m:Addr)(j:List V):Turn P w K U (Itv K a j) [m] m (λi h=>i<=j.length/\h.IsRevIter m a ((j.length:Int)-1-(i:Int))) where
 mem:=by simp
 obj:=λi h f b n=>by
  have e:b=m:=by simpa using n
  subst e;obtain⟨_,o,e,c,d⟩:=f
  exact⟨o,e,λv z=>by rw[d] at z;cases z⟩
 keep:=λi h t f k=>⟨f.1,f.2.at λo e=>k m vC o e⟩
 item:=by
  intro X B C D R i l s S H E I A f F;subst B C D;obtain⟨T,x,r⟩:=F
  obtain⟨Y,Z,p,hz⟩:=I.list T
  have G:i<j.length:=by have:=(Zo.mp r).1;rwa [Qh] at this
  rw[Vv G] at r;obtain⟨u,hu,ru⟩:=Z.get r
  obtain⟨J,L,f2,M,N,O⟩:=A m vC
  have Q:(j.length:Int)-1-(i:Int)=((j.length-1-i:Nat):Int):=by omega
  have g:=f.2;rw[Q] at g;refine wpAny_pyNext_rev_item g p.isList (x:=u) (by simpa using hu) λt q sb=>?_;have I1:Inv X l S H {s with heap:=t}:=I.turned (t':=s.toks) (λb o n e=>(sb.2 b n).trans e) J L M N O;obtain⟨o,e,c,d⟩:=id q
  have e3:((j.length-1-i:Nat):Int)-1=(j.length:Int)-1-((i+1:Nat):Int):=by omega
  rw[e3] at q;exact⟨u,rfl,yds (s:={s with heap:=t}) e c d vA ⟨x,H,I1,ru,⟨rfl,by rw[Vv G];exact r⟩,⟨G,q⟩,λb n=>(A b n).1⟩⟩
 done:=by
  intro X B C D R i l s S H E I A f F;subst B C D;obtain⟨T,r⟩:=F
  obtain⟨J,L,f2,M,N,O⟩:=A m vC
  have Q:(j.length:Int)-1-(i:Int) = -1:=by have:=f.1;omega
  have g:=f.2;rw[Q] at g;exact wpAny_pyNext_rev_end (I.ok.hd R) g λt eb=>⟨rfl,I.turned (t':=s.toks) (λb o n e=>eb b o n e) J L M N O⟩
 self:=λ_ _ _ _ _ f h=>wpAny_pyIter_revIter f.2 h
def zmr:bootBuiltins "reversed" = some (.type "reversed"):=by decide +kernel
section
variable{X:Cx}{tg a:Expr}{p pos:Pos}{ρ:Rho}
def iRev(K:vE)(f:TA):TI:=λg H R=>f g H λh d=>∃a e,h=[.ref a]/\SqL K d a e/\R (Itv K a e) d
def pi_rev{n:TA}(z:Gl X "reversed")(A:X.mg "reversed" = none)(B:PA X [a] n)(C:starEach [a] X.env=[(false,eval a X.env)]):PI X tg (.Call (.Name "reversed" p) [a] [] pos) (iRev X.K n):=by
 intro f s t H R I h;refine Call_ (zef I z A zmr (Ys (thn (B pos f s t H _ I h) λN g ⟨O,v,i,D,E⟩=>?_) (by rw[C];rfl) (by rfl)));obtain⟨l,w,e,F,q⟩:=E
 subst e;obtain⟨u,e,r⟩:=zia D
 subst e;cases r;obtain⟨d,G,J,P⟩:=i.list F
 have j:d.toArray.size=w.length:=by simp[G.length]
 refine call_reversed_list J.isList ?_;have L:Inv X f t v {g with heap:=g.heap.push (revObj l ((d.toArray.size:Int)-1))}:=i.kept (t':=g.toks) λb o e=>Ze _ e
 have m:(g.heap.push (revObj l ((d.toArray.size:Int)-1))).IsRevIter g.heap.objs.size l ((d.toArray.size:Int)-1):=⟨_,Zv _ rfl,rfl,rfl⟩;refine wpAny_pyIter_revIter m ⟨_,[g.heap.objs.size],_,_,v,rfl,L,yav l _ w,⟨Yz _,?_⟩,λb M=>?_,q⟩
 ·rw[j] at m |-;simpa using m
 ·have e:b=g.heap.objs.size:=by simpa using M
  subst e;exact i.fpOk (Zk _) (i.hok.fresh (Zk _))
def zvo{K:vE}{F:Hp}{a:Addr}{f:List V}{l:List D}(g:SqL K F a f)(r:DenL K F l f):Walks K F (Itv K a f) l.reverse:=λi q h=>⟨λd m=>by
 obtain⟨y,j,n⟩:=r.rev.get m
 refine⟨⟨h.seq g,y,j⟩,λx o ⟨p,ex⟩=>?_⟩
 rw[j] at ex;cases ex;exact .inl ⟨p,n⟩,λe=>⟨h.seq g,by
 rw[Qh] at e;rw[r.length];exact e⟩⟩
def DIe.rev{l:List D}(f:Gl X "reversed")(g:X.mg "reversed" = none)(h:DA X [a] ρ [.lst l])(i:Bf a=true):DIe X tg (.Call (.Name "reversed" p) [a] [] pos) ρ l.reverse:=λj m=>
 PI.mono (pi_rev f g (h j m) (by rw[Bl i];rfl)) λz H R ⟨F,n,k⟩=>⟨F,n,λA o s t R2 q=>by
  obtain⟨v,e,q⟩:=q.one
  obtain⟨a,u,w,d,r⟩:=q.lst
  subst w;exact⟨a,u,e,R2.sub.seq d,k _ o s t R2 (zvo d r)⟩⟩
end
open PySem L2 PyProof.Rows
structure BFacts(K:vE):Prop where
 ex:∃C,PySem.W.nsIn K mainGlobals "Bound" = some (some (.ref C))/\Cls K C/\∀f∈flds,NoAttr K C f
def zxe:Expr->Bool
 |.Name _ _=>true
 |.Subscript _ _ _=>true
 |_=>false
def zxd{o:Expr}{f:Str}{env:Env}(h:zxe o=true):attributeBase o f env (eval o env)=eval o env:=by
 cases o<;>first|rfl|(cases h;done)
def DE.fld{X:Cx}{o:Expr}{f:Str}{pos:Pos}{g:Rho}{a:Addr}{l:List D}{d:D}{j:Nat}(B:BFacts X.K)(p:DF X o g (.obj a l))(s:zxe o=true)(h:flds[j]? = some f)(t:l[j]? = some d):DE X (.Attribute o f pos) g (.val d):=λu w=>
 PE.mono (pe_fld (p u w) (zxd s)) λS H Q ⟨F,R,k⟩=>⟨F,R,λv A E G i I=>by
  obtain⟨e,C,J,m,T,c,q,L,r⟩:=I.obj
  obtain⟨U,n,M,N⟩:=B.ex
  rw[c] at n;cases n;obtain⟨y,O,P⟩:=r.get t
  have lk:m.lookup f=some y:=by
   have:=congrArg (λz=>z[j]?) L
   simp only[Zi,h,O,Y7] at this;exact Z0 this
  exact⟨a,C,J,m,y,e,i.sub _ _ q,M,N f (Yg h),lk,k y A E G i (RW.v P)⟩⟩
open PySem L2 PyProof.Rows
def SI:Bool->Heap->Addr->Addr->Nat->Array Value->Prop
 |true,h,i,l,k,d=>h.IsListIter i l k/\h.IsList l d
 |false,h,i,l,k,d=>h.IsTupleIter i l k/\h.IsTuple l d
def SQ:Bool->Heap->Addr->Array Value->Prop
 |true,h,l,d=>h.IsList l d
 |false,h,l,d=>h.IsTuple l d
theorem SI.at{h d:Heap}{i l:Addr}{k:Nat}{f:Array Value}:∀{b:Bool},SI b h i l k f->(∀o,h.get? i=some o->d.get? i=some o)->(∀o,h.get? l=some o->d.get? l=some o)->SI b d i l k f
 |true,⟨e,g⟩,a,b=>⟨e.at a,g.at b⟩
 |false,⟨e,⟨o,j,r⟩⟩,a,b=>⟨e.at a,o,b o j,r⟩
def itO(b:Bool)(l:Addr):Obj:={cls:=.type (if b=true then "list_iterator" else "tuple_iterator"),data:=.fields #[.ref l,.int 0 0]}
section
variable{prog:Program}{w:World}{A:Around}{E:Value->Shared->Prop}{s:Shared}
def ycq{f l:Addr}{i:Nat}{d:Array Value}{x:Value}{Q:Value->Shared->Prop}(e:s.heap.IsTupleIter f l i)(p:s.heap.IsTuple l d)(q:d[i]? = some x)
 (r:∀j,j.IsTupleIter f l (i+1)->Heap.SameBut f s.heap j->Q x {s with heap:=j}):wpAny (model prog w) A (Builtin.SmallTypes.nextOf (.ref f)) Q E s:=by
 obtain⟨o,h,t,g⟩:=id e
 obtain⟨u,m,_,v,n⟩:=p
 unfold Builtin.SmallTypes.nextOf;refine Zc (wpAny_callSpecial?_slot (name:=Str.ofString "__next__") e.typeIs Q6 (Qr Q6 e.typeIs Vm ?_ (Vg _)));show wpAny _ _ (field (.ref f) 0 >>= _) _ _ s;refine Zc (Y5 h g (x:=.ref l) rfl ?_);show wpAny _ _ (if (Value.ref l == Value.none)=true then _ else _) _ _ s;rw[if_neg (show ¬((Value.ref l == Value.none)=true) from Zr)];show wpAny _ _ (field (.ref f) 1 >>= _) _ _ s;refine Zc (Y5 h g (x:=.int i 0) rfl ?_);show wpAny _ _ (seqItems? (.ref l) >>= _) _ _ s;refine Zc (Wc m n ?_);simp only[Z1,q];refine Zc (wpAny_setField h g vC (Zp ⟨x,rfl,Zp (r _ ?_ (Kh ..))⟩));exact⟨_,Wh _ h (Obj.isFreed_of_fields (Gv g _)),(Obj.cls_mapFields ..).trans t,by rw[Gv g];simp[rawInt]⟩
def zxm{g l:Addr}{i:Nat}{d:Array Value}{x:Value}{Q:Value->Shared->Prop}{b:Bool}(h:SI b s.heap g l i d)(j:l≠g)(m:d[i]? = some x)
 (n:∀f,SI b f g l (i+1) d->Heap.SameBut g s.heap f->Q x {s with heap:=f}):wpAny (model prog w) A (Builtin.SmallTypes.nextOf (.ref g)) Q E s:=by
 cases b with
 |true=>exact Jx h.1 h.2 m λf a k=>n f ⟨a,h.2.at λo e=>(k.2 l j).trans e⟩ k
 |false=>
  refine ycq h.1 h.2 m λf a k=>n f ⟨a,?_⟩ k
  obtain⟨o,p,r⟩:=h.2
  exact⟨o,(k.2 l j).trans p,r⟩
def zuy{g l:Addr}{i:Nat}{d:Array Value}{Q:Value->Shared->Prop}(r:A.handled=none)(f:s.heap.IsTupleIter g l i)(t:s.heap.IsTuple l d)(u:d[i]? = none)
 (v:∀h e,Heap.ExtBut g s.heap h->(∃o,h.get? e=some o/\o.cls=.type "StopIteration")->E (.ref e) {s with heap:=h}):wpAny (model prog w) A (Builtin.SmallTypes.nextOf (.ref g)) Q E s:=by
 obtain⟨o,j,z,n⟩:=id f
 obtain⟨B,p,_,C,q⟩:=t
 unfold Builtin.SmallTypes.nextOf;refine Zc (wpAny_callSpecial?_slot (name:=Str.ofString "__next__") f.typeIs Q6 (Qr Q6 f.typeIs Vm ?_ (Vg _)));show wpAny _ _ (field (.ref g) 0 >>= _) _ _ s;refine Zc (Y5 j n (x:=.ref l) rfl ?_);show wpAny _ _ (if (Value.ref l == Value.none)=true then _ else _) _ _ s;rw[if_neg (show ¬((Value.ref l == Value.none)=true) from Zr)];show wpAny _ _ (field (.ref g) 1 >>= _) _ _ s;refine Zc (Y5 j n (x:=.int i 0) rfl ?_);show wpAny _ _ (seqItems? (.ref l) >>= _) _ _ s;refine Zc (Wc p q ?_);simp only[Z1,u];refine Zc (Jk (Zc (wpAny_setField j n vC ?_)));show wpAny _ _ (newExc (.type "StopIteration") [] >>= _) _ _ _;refine Zc ?_;simp only[newExc,newTuple];refine Zc (Jl ?_ (by size_fits));refine Zc (m:=firstArgMember _ _) (wpAny_of_eq (a:=Value.none) (by first|rfl|(simp only[firstArgMember];rfl)) ?_);refine Jl ?_ (by size_fits);simp only[raiseNew];refine Zc (wpAny_handled ?_);first|rw[show A.in1.handled=none from r]|rw[r]
 refine Zc (Zp (wpAny_throw ?_));exact v _ _ (((Kh ..).extBut.push _).push _) ⟨_,Zv _ rfl,rfl⟩
def nx_end{f l:Addr}{i:Nat}{d:Array Value}{Q:Value->Shared->Prop}{b:Bool}(j:A.handled=none)(h:SI b s.heap f l i d)(m:d[i]? = none)
 (n:∀g e,Heap.ExtBut f s.heap g->(∃o,g.get? e=some o/\o.cls=.type "StopIteration")->E (.ref e) {s with heap:=g}):wpAny (model prog w) A (Builtin.SmallTypes.nextOf (.ref f)) Q E s:=by
 cases b with
 |true=>exact G0 j h.1 h.2 m n
 |false=>exact zuy j h.1 h.2 m n
def ygl{l:Addr}{e:Array Value}{Q:Value->Shared->Prop}{b:Bool}(h:SQ b s.heap l e)(d:Q (.ref s.heap.objs.size) {s with heap:=s.heap.push (itO b l)}):wpAny (model prog w) A (pyIter (.ref l)) Q E s:=by
 cases b with
 |true=>exact U3 h d
 |false=>exact wpAny_pyIter_tuple h d
def yhk{z TI TO n p l1 l2:Addr}{U V:Bool}{N O:Nat}{P R:Array Value}{x y a b:Value}{Q:Option Value->Shared->Prop}(D:ZipApart z TI TO n p l1 l2)(C:IsZip s.heap z TI TO .none)(W:IsPair s.heap TI (.ref n) (.ref p))(X:IsPair s.heap TO a b)
 (h1:SI U s.heap n l1 N P)(h2:SI V s.heap p l2 O R)(hx:P[N]? = some x)(hy:R[O]? = some y)
 (hQ:∀u,IsZip u z TI TO (rawInt s.heap.objs.size)->IsPair u TO x y->SI U u n l1 (N+1) P->SI V u p l2 (O+1) R->IsPair u s.heap.objs.size x y ->
   (∀c o,c≠z->c≠TO->c≠n->c≠p->s.heap.get? c=some o->u.get? c=some o)->Q (some (.ref s.heap.objs.size)) {s with heap:=u}):
  wpAny (model prog w) A (pyNext (.ref z)) Q E s:=by
 have F:s.TypeIs (.ref z) "zip" := ⟨_,C,rfl⟩;unfold pyNext;refine Zc (Uu (wpAny_callSpecial?_slot (name:=Str.ofString "__next__") F Qe (Qr Qe F Jn ?_ (Ji _))));show wpAny _ _ (field (.ref z) 2 >>= _) _ _ _;refine Zc (Y5 C rfl (x:=.bool false) rfl ?_);show wpAny _ _ (field (.ref z) 3 >>= _) _ _ _;refine Zc (Y5 C rfl (x:=.ref TI) rfl ?_);refine Zc (Wc W rfl ?_);show wpAny _ _ (Builtin.SmallTypes.ownedTupleIsFree (.ref z) >>= _) _ _ _;refine Zc ?_;unfold Builtin.SmallTypes.ownedTupleIsFree;refine Zc (Y5 C rfl (x:=.none) rfl (Zp ?_));simp only[if_true];refine Zc (Jk ?_);refine Zc (Y5 C rfl (x:=.ref TO) rfl ?_);refine Zc (Qw C vC λg1 v G=>?_);replace v:IsZip g1 z TI TO .ellipsis:=v
 refine Zc ?_;simp only[G8,List.zipIdx_nil,Kz,Jz];refine Zc (Zc (Gf ?_));show wpAny _ _ (Builtin.SmallTypes.nextOf (.ref n) >>= _) _ _ _;have Y:∀c o,c≠z->s.heap.get? c=some o->g1.get? c=some o:=λc o h e=>G.extBut _ _ h e
 refine Zc (zxm (h1.at (λo e=>Y _ o D.i1z e) λo e=>Y _ o D.l1z e) D.l1i1 hx λg2 Z B=>Zp ?_);have e2:∀c o,c≠z->c≠n->s.heap.get? c=some o->g2.get? c=some o:=λc o h q e=>B.extBut _ _ q (Y c o h e)
 have r:IsPair g2 TO a b:=e2 _ _ D.TOz D.TOi1 X;refine Zc (Wc r rfl ?_);refine Zc (wpAny_updateSeq_pair r λg3 l m=>?_);replace l:IsPair g3 TO x b:=l
 refine Zc (Ja (Zp ?_));refine Zc (Zc (Gf ?_));show wpAny _ _ (Builtin.SmallTypes.nextOf (.ref p) >>= _) _ _ _;have e3:∀c o,c≠z->c≠n->c≠TO->s.heap.get? c=some o->g3.get? c=some o:=λc o h q H e=>m.extBut _ _ H (e2 c o h q e)
 refine Zc (zxm (h2.at (λo e=>e3 _ o D.i2z D.i12.symm D.TOi2.symm e) λo e=>e3 _ o D.l2z D.l2i1 D.l2TO e) D.l2i2 hy λg4 a0 i=>Zp ?_);have t:IsPair g4 TO x b:=i.extBut _ _ D.TOi2 l;refine Zc (Wc t rfl ?_);refine Zc (wpAny_updateSeq_pair t λf g d=>?_);replace g:IsPair f TO x y:=g
 refine Zc (Ja (Zp (Zp ?_)));refine Zc (Wc g rfl ?_);refine Zc (Vz ?_);have I:f.objs.size=s.heap.objs.size:=by rw[d.1,i.1,m.1,B.1,G.1]
 have z5:IsZip f z TI TO .ellipsis:=d.extBut _ _ D.TOz.symm (i.extBut _ _ D.i2z.symm (m.extBut _ _ D.TOz.symm (B.extBut _ _ D.i1z.symm v)));have e5:∀c o,c≠z->c≠TO->c≠n->c≠p->s.heap.get? c=some o->f.get? c=some o:=λc o h q H c4 e=>d.extBut _ _ q (i.extBut _ _ c4 (e3 c o h H q e))
 have a1:SI U f n l1 (N+1) P:=Z.at (λo e=>d.extBut _ _ D.TOi1.symm (i.extBut _ _ D.i12 (m.extBut _ _ D.TOi1.symm e))) λo e=>d.extBut _ _ D.l1TO (i.extBut _ _ D.l1i2 (m.extBut _ _ D.l1TO e))
 have a2:SI V f p l2 (O+1) R:=a0.at (λo e=>d.extBut _ _ D.TOi2.symm e) λo e=>d.extBut _ _ D.l2TO e
 have J:z<f.objs.size:=Zm z5;show wpAny _ _ (Builtin.SmallTypes.ownedTupleHandOut (.ref z) (.ref f.objs.size) >>= _) _ _ _;refine Zc ?_;unfold Builtin.SmallTypes.ownedTupleHandOut;have z6:IsZip (f.push {cls:=.type "tuple",data:=.seq #[x,y]}) z TI TO .ellipsis:=Ze _ z5;refine Zc (Qw z6 vC λg7 z7 K=>?_);replace z7:IsZip g7 z TI TO (rawInt f.objs.size):=z7
 refine Qw z7 vC λS T L=>?_;replace T:IsZip S z TI TO (rawInt f.objs.size):=T
 have j:∀c o,c≠z->f.get? c=some o->S.get? c=some o:=λc o h e=>L.extBut _ _ h (K.extBut _ _ h (Ze _ e))
 have M:IsPair S f.objs.size x y:=L.extBut _ _ (Z3 J) (K.extBut _ _ (Z3 J) (Zv _ rfl));rw[I] at T M;refine Zp ⟨_,rfl,Zp ?_⟩;show Q (some (.ref f.objs.size)) _;rw[I];exact hQ S T (j _ _ D.TOz g) (a1.at (λo e=>j _ o D.i1z e) λo e=>j _ o D.l1z e) (a2.at (λo e=>j _ o D.i2z e) λo e=>j _ o D.l2z e) M λc o h q H c4 e=>j c o h (e5 c o h q H c4 e)
def zi_end{z TI TO h B l1 l2:Addr}{J:Bool}{C:Nat}{F:Array Value}{a b:Value}{Q:Option Value->Shared->Prop}(G:A.handled=none)(D:ZipApart z TI TO h B l1 l2)(g:IsZip s.heap z TI TO .none)(r:IsPair s.heap TI (.ref h) (.ref B))(K:IsPair s.heap TO a b)
 (L:SI J s.heap h l1 C F)(M:F[C]? = none)
 (N:∀H,(∀c o,c≠z->c≠h->s.heap.get? c=some o->H.get? c=some o)->Q none {s with heap:=H}):wpAny (model prog w) A (pyNext (.ref z)) Q E s:=by
 have i:s.TypeIs (.ref z) "zip" := ⟨_,g,rfl⟩;unfold pyNext;refine Zc (Uu (wpAny_callSpecial?_slot (name:=Str.ofString "__next__") i Qe (Qr Qe i Jn ?_ (Ji _))));show wpAny _ _ (field (.ref z) 2 >>= _) _ _ _;refine Zc (Y5 g rfl (x:=.bool false) rfl ?_);show wpAny _ _ (field (.ref z) 3 >>= _) _ _ _;refine Zc (Y5 g rfl (x:=.ref TI) rfl ?_);refine Zc (Wc r rfl ?_);show wpAny _ _ (Builtin.SmallTypes.ownedTupleIsFree (.ref z) >>= _) _ _ _;refine Zc ?_;unfold Builtin.SmallTypes.ownedTupleIsFree;refine Zc (Y5 g rfl (x:=.none) rfl (Zp ?_));simp only[if_true];refine Zc (Jk ?_);refine Zc (Y5 g rfl (x:=.ref TO) rfl ?_);refine Zc (Qw g vC λI d t=>?_);replace d:IsZip I z TI TO .ellipsis:=d
 refine Zc ?_;simp only[G8,List.zipIdx_nil,Kz,Jz];refine Zc (Zc (Gf ?_));show wpAny _ _ (Builtin.SmallTypes.nextOf (.ref h) >>= _) _ _ _;have u:∀c o,c≠z->s.heap.get? c=some o->I.get? c=some o:=λc o p e=>t.extBut _ _ p e
 refine Zc (nx_end (by first|exact G|simp[G]) (L.at (λo e=>u _ o D.i1z e) λo e=>u _ o D.l1z e) M λO e j P=>?_);obtain⟨R,f,l⟩:=P
 have m:IsZip O z TI TO .ellipsis:=j _ _ D.i1z.symm d;have v:e≠z:=λx=>by subst x;rw[m] at f;cases f;simp at l
 refine Qw m vC λg3 _ n=>?_;refine Zc (wpAny_isInstance (T := "StopIteration") (b:=true) ⟨R,n.extBut _ _ v f,l⟩ isSubtype_stop ?_);exact Zp (N _ λc o p S q=>n.extBut _ _ p (j _ _ S (u c o p q)))
end
open PySem L2 PyProof.Rows
abbrev zh1(h:Heap)(d:Bool)(l1:Addr):Heap:=h.push (itO d l1)
abbrev zh2(h:Heap)(d e:Bool)(l1 l2:Addr):Heap:=(zh1 h d l1).push (itO e l2)
abbrev zh3(h:Heap)(d e:Bool)(l1 l2:Addr):Heap:=(zh2 h d e l1 l2).push {cls:=.type "tuple",data:=.seq #[.ref h.objs.size,.ref (zh1 h d l1).objs.size]}
abbrev zh4(h:Heap)(d e:Bool)(l1 l2:Addr):Heap:=(zh3 h d e l1 l2).push {cls:=.type "tuple",data:=.seq #[.none,.none]}
abbrev zh5(h:Heap)(d e:Bool)(l1 l2:Addr):Heap:=(zh4 h d e l1 l2).push {cls:=.type "zip",data:=.fields #[.none,.bool false,.bool false,.ref (zh2 h d e l1 l2).objs.size,.ref (zh3 h d e l1 l2).objs.size]}
theorem SQ.push{h:Heap}{l:Addr}{d:Array Value}{o:Obj}:∀{b:Bool},SQ b h l d->SQ b (h.push o) l d
 |true,q=>Heap.IsList.push q _
 |false,q=>Heap.IsTuple.push q _
def ycz(l1 l2:Addr)(e f:Bool)(i j:Array Value):
  Meets (Builtin.«zip.__new__» ⟨[.type "zip", .ref l1,.ref l2],[]⟩) (λ_ R s=>SQ e s.heap l1 i/\SQ f s.heap l2 j/\R (.ok (.ret (.ref (zh4 s.heap e f l1 l2).objs.size))) {s with heap:=zh5 s.heap e f l1 l2}):=
 .of_wp λl w A R s h=>by
  obtain⟨m,g,d,n,os⟩:=s
  obtain⟨p,q,h⟩:=h
  have o:=sub_zip;have r:SQ e (Shared.heap ⟨m,g,d,n,os⟩) l1 i:=p;have t:SQ f (Shared.heap ⟨m.push (itO e l1),g,d,n,os⟩) l2 j:=SQ.push q;wp_walk using ygl r,ygl t
  exact⟨_,rfl,h⟩
section
variable{prog:Program}{w:World}{A:Around}{E:Value->Shared->Prop}{s:Shared}
theorem SI.new{h:Heap}{i l:Addr}{d:Array Value}:∀{b:Bool},h.get? i=some (itO b l)->SQ b h l d->SI b h i l 0 d
 |true,e,q=>⟨⟨_,e,rfl,rfl⟩,q⟩
 |false,e,q=>⟨⟨_,e,rfl,rfl⟩,q⟩
theorem SQ.at{h d:Heap}{l:Addr}{e:Array Value}:∀{b:Bool},SQ b h l e->(∀o,h.get? l=some o->d.get? l=some o)->SQ b d l e
 |true,q,k=>Heap.IsList.at q k
 |false,⟨o,f,r⟩,k=>⟨o,k o f,r⟩
def ymv{l1 l2:Addr}{d f:Bool}{i j:Array Value}{Q:Value->Shared->Prop}(r:SQ d s.heap l1 i)(t:SQ f s.heap l2 j)
 (h:∀g,IsZip g (s.heap.objs.size+4) (s.heap.objs.size+2) (s.heap.objs.size+3) .none->IsPair g (s.heap.objs.size+2) (.ref s.heap.objs.size) (.ref (s.heap.objs.size+1)) ->
   IsPair g (s.heap.objs.size+3) .none .none->SI d g s.heap.objs.size l1 0 i->SI f g (s.heap.objs.size+1) l2 0 j ->
   (∀c o,s.heap.get? c=some o->g.get? c=some o)->Q (.ref (s.heap.objs.size+4)) {s with heap:=g}):
  wpAny (model prog w) A (call (.type "zip") [.ref l1,.ref l2]) Q E s:=by
 refine callType_new F.called_zip vA (F.typeCall_zip_2 _ _) (F.newCall_zip_2 _ _) (λl=>F.args_object_init_3 l _ _) F.entry_zip_new (ycz l1 l2 d f i j) ⟨r,t,?_⟩;have m:(zh1 s.heap d l1).objs.size=s.heap.objs.size+1:=Qn ..;have n:(zh2 s.heap d f l1 l2).objs.size=s.heap.objs.size+2:=by rw[Qn,m]
 have p:(zh3 s.heap d f l1 l2).objs.size=s.heap.objs.size+3:=by rw[Qn,n]
 have u:(zh4 s.heap d f l1 l2).objs.size=s.heap.objs.size+4:=by rw[Qn,p]
 have up:∀c o,s.heap.get? c=some o->(zh5 s.heap d f l1 l2).get? c=some o:=λc o e=>Ze _ (Ze _ (Ze _ (Ze _ (Ze _ e))))
 have q:(zh5 s.heap d f l1 l2).get? (zh4 s.heap d f l1 l2).objs.size=some _:=Zv _ rfl;have v:(zh5 s.heap d f l1 l2).get? (zh3 s.heap d f l1 l2).objs.size=some _:=Ze _ (Zv _ rfl);have g3:(zh5 s.heap d f l1 l2).get? (zh2 s.heap d f l1 l2).objs.size=some _:=Ze _ (Ze _ (Zv _ rfl));have z:(zh5 s.heap d f l1 l2).get? (zh1 s.heap d l1).objs.size=some (itO f l2):=Ze _ (Ze _ (Ze _ (Zv _ rfl)));have B:(zh5 s.heap d f l1 l2).get? s.heap.objs.size=some (itO d l1):=Ze _ (Ze _ (Ze _ (Ze _ (Zv _ rfl))));show _/\_;rw[n,p,u] at q;rw[m,n] at g3;rw[p] at v;rw[m] at z;rw[u];exact⟨⟨_,q,rfl⟩,h _ q g3 v (SI.new B (r.at λo e=>up _ o e)) (SI.new z (t.at λo e=>up _ o e)) up⟩
end
def SqB(K:vE)(H:Hp):Bool->Addr->List V->Prop
 |true,a,d=>SqL K H a d
 |false,a,d=>SqT K H a d
theorem zos{X:Cx}{e:List (Addr×Obj)}{i:L2.St}{H:Hp}{s:Shared}(I:Inv X e i H s){a:Addr}{g:List V}:∀{b:Bool},SqB X.K H b a g->∃d:List Value,Vals g d/\SQ b s.heap a d.toArray
 |true,h=>by
  obtain⟨d,f,p,_⟩:=I.list h
  exact⟨d,f,p.isList⟩
 |false,h=>by
  obtain⟨d,f,p,_⟩:=I.tuple h
  exact⟨d,f,p⟩
def Izg(K:vE)(f g:Bool)(a b:Addr)(d e:List V):It:=
 ⟨λi H=>SqB K H f a d/\SqB K H g b e/\(∃x y,d[i]? = some x/\e[i]? = some y),λi H z h=>∃p x y,H p=none/\z=.ref p/\h=upd H p (.tup [x,y])/\d[i]? = some x/\e[i]? = some y,λi H=>SqB K H f a d/\d.length<=i⟩
def IT:Bool->Heap->Addr->Addr->Nat->Prop
 |true,h,i,l,k=>h.IsListIter i l k
 |false,h,i,l,k=>h.IsTupleIter i l k
theorem IT.si{h:Heap}{i l:Addr}{k:Nat}{d:Array Value}:∀{b:Bool},IT b h i l k->SQ b h l d->SI b h i l k d
 |true,a,q=>⟨a,q⟩
 |false,a,q=>⟨a,q⟩
theorem SI.it{h:Heap}{i l:Addr}{k:Nat}{d:Array Value}:∀{b:Bool},SI b h i l k d->IT b h i l k
 |true,h=>h.1
 |false,h=>h.1
theorem IT.at{h d:Heap}{i l:Addr}{k:Nat}:∀{b:Bool},IT b h i l k->(∀o,h.get? i=some o->d.get? i=some o)->IT b d i l k
 |true,a,e=>Heap.IsListIter.at a e
 |false,a,e=>Heap.IsTupleIter.at a e
theorem IT.obj{h:Heap}{i l:Addr}{k:Nat}:∀{b:Bool},IT b h i l k->∃o,h.get? i=some o/\∀v,o.data ≠ .cell v
 |true,⟨o,e,c,d⟩=>⟨o,e,λv z=>by rw[d] at z;cases z⟩
 |false,⟨o,e,c,d⟩=>⟨o,e,λv z=>by rw[d] at z;cases z⟩
def yhp{P:Program}{w:World}{K:vE}{F:List Expr}{x1}{tp:Pos}(b1 b2:Bool)(l1 l2 z TI TO r t:Addr)(xs ys:List V)(D:ZipApart z TI TO r t l1 l2):
  Turn P w K (.Tuple F x1 tp) (Izg K b1 b2 l1 l2 xs ys) [z,TI,TO,r,t] z (λi h=>IsZip h z TI TO .none/\IsPair h TI (.ref r) (.ref t)/\(∃a b,IsPair h TO a b)/\IT b1 h r l1 i/\IT b2 h t l2 i) where
 mem:=by simp
 obj:=λi h f b l=>by
  obtain⟨m,u,⟨a,c,N⟩,O,Q⟩:=f
  simp only[Zg,Zn,or_false] at l;rcases l with e|e|e|e|e<;>subst e
  ·exact⟨_,m,λv z=>by cases z⟩
  ·exact⟨_,u,λv z=>by cases z⟩
  ·exact⟨_,N,λv z=>by cases z⟩
  ·exact O.obj
  ·exact Q.obj
 keep:=λi h R f k=>by
  obtain⟨m,u,⟨a,c,N⟩,O,Q⟩:=f
  exact⟨k z vC _ m,k TI vC _ u,⟨a,c,k TO vC _ N⟩,O.at λo q=>k r vC o q,Q.at λo q=>k t vC o q⟩
 item:=by
  intro X S T U hc i p s σ H E I J f Y;subst S T U;obtain⟨L,d,⟨a,c,g⟩,m,u⟩:=f
  obtain⟨A,Z,x,y,hx,hy⟩:=Y
  obtain⟨G,B,p1⟩:=zos I A
  obtain⟨ac,a0,p2⟩:=zos I Z
  obtain⟨u1,a6,a7⟩:=B.get hx
  obtain⟨u2,a8,a9⟩:=a0.get hy
  refine yhk D L d g (m.si p1) (u.si p2) (by simpa using a6) (by simpa using a8) λR a1 a2 a3 a4 a5 M=>⟨_,rfl,?_⟩
  refine wpAny_letOwnedTupleGo_zip a1 λj aa ab=>?_;have zl:z<s.heap.objs.size:=Zm L;have lt:∀b∈[z,TI,TO,r,t],b<s.heap.objs.size:=λb l=>by
   simp only[Zg,Zn,or_false] at l;rcases l with e|e|e|e|e<;>subst e
   ·exact zl
   ·exact Zm d
   ·exact Zm g
   ·obtain⟨o,q,_⟩:=m.obj;exact Zm q
   ·obtain⟨o,q,_⟩:=u.obj;exact Zm q
  have up:∀b o,b≠z->R.get? b=some o->j.get? b=some o:=λb o n q=>(ab.2 b n).trans q
  have ht:j.get? s.heap.objs.size=some {cls:=.type "tuple",data:=.seq #[u1,u2]}:=up _ _ (Z3 zl) a5;have hk:∀b C,b∉[z,TI,TO,r,t]->s.heap.get? b=some C->j.get? b=some C:=λb C n q=>by
   simp only[Zg,Zn,or_false,not_or] at n;exact up b C n.1 (M b C n.1 n.2.2.1 n.2.2.2.1 n.2.2.2.2 q)
  have I2:Inv X p σ (upd H s.heap.objs.size (.tup [x,y])) {s with heap:=j,toks:=s.toks}:=
   Inv.turnedN I J hk (Zk _) ⟨by show 2<=sizeLine;decide,[u1,u2],.cons a7 #v[a9],⟨_,ht,rfl,_,rfl⟩⟩
  refine⟨.ref s.heap.objs.size,_,I2,rfl,⟨_,x,y,I.hok.fresh (Zk _),rfl,rfl,hx,hy⟩,⟨aa,up _ _ D.TIz (M _ _ D.TIz D.TITO D.TIi1 D.TIi2 d),⟨_,_,up _ _ D.TOz a2⟩,a3.it.at λo q=>up _ o D.i1z q,a4.it.at λo q=>up _ o D.i2z q⟩,λb l=>?_⟩
  rw[Bk (Yc (lt b l))];exact(J b l).1
 done:=by
  intro X S T U hc i p s σ H E I J f Y;subst S T U;obtain⟨L,d,⟨a,c,g⟩,m,u⟩:=f
  obtain⟨A,hx⟩:=Y
  obtain⟨G,B,p1⟩:=zos I A
  have hl:=B.length;refine zi_end (I.ok.hd hc) D L d g (m.si p1) (by simp;omega) λR M=>⟨rfl,?_⟩
  exact Inv.turnedF (t':=s.toks) I J λb C n q=>by
   simp only[Zg,Zn,or_false,not_or] at n;exact M b C n.1 n.2.2.2.1 q
 self:=λ_ _ _ _ _ f h=>Vh f.1 h
theorem SqB.mono{K:vE}{F H:Hp}(s:Same F H){a:Addr}{d:List V}:∀{b:Bool},SqB K F b a d->SqB K H b a d
 |true,h=>s.seq h
 |false,h=>Same.tup s h
section
variable{X:Cx}{elts:List Expr}{x1:Nat}{tp:Pos}
def iZg(K:vE)(i:TA):TI:=λj H R=>i j H λl d=>∃e f a b g h,l=[.ref a,.ref b]/\SqB K d e a g/\SqB K d f b h/\R (Izg K e f a b g h) d
def pi_zg{a b:Expr}{w:TA}{p pos:Pos}(L:Gl X "zip")(M:X.mg "zip" = none)(N:PA X [a,b] w)(O:starEach [a,b] X.env=[(false,eval a X.env),(false,eval b X.env)])(g:starEach [b] X.env=[(false,eval b X.env)]):PI X (.Tuple elts x1 tp) (.Call (.Name "zip" p) [a,b] [] pos) (iZg X.K w):=by
 intro f s z H R I h;refine Call_ (zef I L M yes (Ys (thn (N pos f s z H _ I h) λus d ⟨vs,A,i,P,Q⟩=>?_) (by rw[O,g]) (by rw[g];rfl)));obtain⟨S,T,l,m,U,V,e,W,n,q⟩:=Q
 subst e;obtain⟨u,u2,e,r,Y⟩:=yat P
 subst e;cases r;cases Y;obtain⟨Z,rv,B⟩:=zos i W
 obtain⟨C,a0,D⟩:=zos i n
 have E:∀{b:Bool}{c:Addr}{F:Array Value},SQ b d.heap c F->c<d.heap.objs.size:=λ{b c F} k=>by
  cases b with
  |true=>obtain⟨o,t,_⟩:=k;exact Zm t
  |false=>obtain⟨o,t,_⟩:=k;exact Zm t
 refine ymv B D λh1 G g2 g3 g4 g5 v=>?_;have I2:Inv X f z A {d with heap:=h1}:=i.kept (t':=d.toks) v;refine Vh G ⟨_,[d.heap.objs.size+4,d.heap.objs.size+2,d.heap.objs.size+3,d.heap.objs.size,d.heap.objs.size+1],_,_,A,rfl,I2,yhp S T l m _ _ _ _ _ U V (yfo (E B) (E D)),⟨G,g2,⟨_,_,g3⟩,g4.it,g5.it⟩,λb J=>?_,q⟩;have j:d.heap.objs.size<=b:=by
  simp only[Zg,Zn,or_false] at J;rcases J with e|e|e|e|e<;>subst e
  ·exact Qm _ _
  ·exact Qm _ _
  ·exact Qm _ _
  ·exact Zk _
  ·exact Qm _ _
 exact i.fpOk j (i.hok.fresh j)
def zrl{K:vE}{F:Hp}{t u:Bool}{a b:Addr}{g h:List V}{l m:List D}(v:SqB K F t a g)(j:SqB K F u b h)(r:DenL K F l g)(C:DenL K F m h)(N:l.length=m.length):Walks K F (Izg K t u a b g h) (zipD l m):=λi O n=>⟨λd o=>by
 unfold zipD at o;rw[Zi] at o;obtain⟨q,s,e⟩:=Zb.mp o
 rw[Q5] at s;obtain⟨E,w,G⟩:=r.get s.1
 obtain⟨H,z,I⟩:=C.get s.2
 subst e;refine⟨⟨v.mono n,j.mono n,E,H,w,z⟩,λx J ⟨p,P,Q,L,ex,M,A,B⟩=>?_⟩
 rw[w] at A;rw[z] at B;cases A;cases B;exact .inr ⟨p,_,[q.1,q.2],L,M,ex,rfl,DenL.cons G (DenL.cons I DenL.nil)⟩,λf=>⟨v.mono n,by
 unfold zipD at f;rw[Zd,Jm] at f;have:=r.length
 omega⟩⟩
def sqD:D->Option (List D)
 |.lst l=>some l
 |.tup l=>some l
 |_=>none
def zle{K:vE}{F:Hp}{d:D}{l:List D}{v:V}(h:sqD d=some l)(q:Den K F d v):∃b a f,v=.ref a/\SqB K F b a f/\DenL K F l f:=by
 cases d<;>first|(cases h;done)|skip
 ·cases h;obtain⟨a,f,e,g,r⟩:=q.tup
  exact⟨false,a,f,e,g,r⟩
 ·cases h;obtain⟨a,f,e,g,r⟩:=q.lst
  exact⟨true,a,f,e,g,r⟩
def DI.zg{a b:Expr}{p pos:Pos}{d1 d2:D}{l m:List D}{g:RhoS}(i:Gl X "zip")(j:X.mg "zip" = none)(n:DA X [a,b] (view g) [d1,d2])(o:sqD d1=some l)(s:sqD d2=some m)(t:Bf a=true)(d:Bf b=true)(w:l.length=m.length):
  DI X (.Tuple elts x1 tp) (.Call (.Name "zip" p) [a,b] [] pos) g (zipD l m) (frz g):=λz A=>
 PI.mono (pi_zg i j (n z A) (by rw[Bl t,Bl d];rfl) (by rw[Bl d];rfl)) λV H R ⟨F,S,k⟩=>by
  obtain⟨W,B⟩:=S.borrow
  refine⟨_,B,λY C E G R2 q=>?_⟩
  obtain⟨I,J⟩:=S.freeze G R2
  obtain⟨v,u,e,K,L⟩:=q.two
  obtain⟨M,a,N,O,h,r⟩:=zle o K
  obtain⟨P,b,Q,T,f,U⟩:=zle s L
  subst O;subst T;exact⟨M,P,a,b,N,Q,e,h.mono R2.sub,f.mono R2.sub,k _ C E I J (zrl h f r U w)⟩
def DIe.zg{a b:Expr}{p pos:Pos}{d1 d2:D}{l m:List D}{g:Rho}(i:Gl X "zip")(j:X.mg "zip" = none)(n:DA X [a,b] g [d1,d2])(o:sqD d1=some l)(s:sqD d2=some m)(t:Bf a=true)(d:Bf b=true)(w:l.length=m.length):
  DIe X (.Tuple elts x1 tp) (.Call (.Name "zip" p) [a,b] [] pos) g (zipD l m):=λz A=>
 PI.mono (pi_zg i j (n z A) (by rw[Bl t,Bl d];rfl) (by rw[Bl d];rfl)) λS H R ⟨F,B,k⟩=>⟨F,B,λT C E G R2 q=>by
  obtain⟨v,u,e,I,J⟩:=q.two
  obtain⟨K,a,L,M,h,r⟩:=zle o I
  obtain⟨N,b,O,P,f,Q⟩:=zle s J
  subst M;subst P;exact⟨K,N,a,b,L,O,e,h.mono R2.sub,f.mono R2.sub,k _ C E G R2 (zrl h f r Q w)⟩⟩
end
open PySem L2 PyProof.Rows
section
variable{prog:Program}{w:World}{A:Around}{E:Value->Shared->Prop}{s:Shared}
def zty{l:Addr}{f:List (List Int×Addr)}{Q:Value->Shared->Prop}(G:s.heap.IsList l (f.map λx=>Value.ref x.2).toArray)(t:∀x∈f,IsTK prog w s.heap x.1 x.2/\isPr x.1=true)(H:(f.map (·.1)).Nodup)(u:f.length<64)
 (h:∀v I D (i:List (List Int×Addr)) n,i.Perm f->i.Pairwise (λx y=>ltK x.1 y.1=true)->v.get? D=some (seqObj "list" (i.map λx=>Value.ref x.2).toArray n)->s.heap.objs.size<=D->(∀b o,s.heap.get? b=some o->v.get? b=some o)->Q (.ref D) {s with heap:=v,toks:=I}):
  wpAny (model prog w) A (call (.builtin "sorted") [.ref l]) Q E s:=by
 refine Calls.call_function_entry kind_sorted plain_sorted entry_sorted (args_sorted1 _) ?_;unfold Builtin.«sorted»;refine Zc (m:=checkCount "sorted" 1 1 _) (Zp ?_);refine Zc (collect_list G ?_);generalize F:(s.heap.push (seqObj "list" #[] 0)).update s.heap.objs.size (Obj.mapSeq (· ++ (f.map λx=>Value.ref x.2).toArray))=g;have d:∀b o,s.heap.get? b=some o->g.get? b=some o:=λb o e=>by
  rw[<-F];exact(Yn _ _ (Z3 (Zm e))).trans (Ze _ e)
 have z:g.objs.size=s.heap.objs.size+1:=by rw[<-F,Kb,size_push']
 refine Zc (Gg ?_ (by rw[Zd,Ku];omega));have j:(g.push (seqObj "list" (f.map λx=>Value.ref x.2).toArray 0)).get? g.objs.size=some (seqObj "list" (f.map λx=>Value.ref x.2).toArray 0):=Zv _ rfl;show wpAny _ _ _ _ _ {s with heap:=g.push (seqObj "list" (f.map λx=>Value.ref x.2).toArray 0)};refine Zc (Ws (Qr slot_list_sort ⟨_,j,rfl⟩ entry_list_sort ?body (args_list_sort _)))
 case body=>
  refine yic (xs:=f) j (λx J=>?_) H u λK i L M N B O=>⟨_,rfl,Zp ⟨_,rfl,h K s.toks _ i L M N B (by rw[z];exact Jg _) λb o e=>?_⟩⟩
  ·obtain⟨⟨P,C,m,q,r⟩,p⟩:=t x J
   exact⟨⟨P,C,m,Ze _ (d _ _ q),r⟩,p⟩
  ·exact O b o (Yc (Zm (d _ _ e))) (Ze _ (d _ _ e))
end
def srtW:∅
 |[.lst l]=>(zmc l).bind λd=>if d.length<=63/\d.Nodup then some (.new ((ssK d).map dK)) else none
 |_=>none
section
variable{X:Cx}
def yna{l:List D}{o:List (List Int)}(hX:X.calm=true)(O:zmc l=some o)(J:o.length<=63)(A:o.Nodup):zes X (.builtin "sorted") [.lst l] (.new ((ssK o).map dK)):=by
 refine⟨λB H Q=>∃(a:Addr) (g:List (List Int×Addr)),B=[.ref a]/\SqL X.K H a (g.map λz=>V.ref z.2)/\(∀z∈g,SqT X.K H z.2 (z.1.map V.int)/\isPr z.1=true)/\g.length<=63/\(g.map (·.1)).Nodup /\
   ∀(f:List (List Int×Addr)) p,(∀y∈f,y∈g)->f.map (·.1)=ssK (g.map (·.1))->H p=none->Q (.ref p) (upd H p (.lst (f.map λz=>V.ref z.2))),λpins s P H B us Q I r ⟨a,g,e,S,i,J,A,h⟩=>?_,λH0 Fc H F P ρ B Q R q k=>?_⟩
 ·subst e;obtain⟨u,e,T⟩:=zia r
  subst e;cases T;obtain⟨U,r,pl,_⟩:=I.list S
  have e:=zna r;subst e;refine zty pl.isList (λx t=>⟨Inv.tk I (i x t).1,(i x t).2⟩) A vB λC E D f n j W Y hD Z=>?_;have d:f.map (·.1)=ssK (g.map (·.1)):=by
   refine yfw (Qb.mpr W) (zpr λx t=>?_) λx=>?_
   ·obtain⟨z,q,e⟩:=Z5.mp t
    rw[<-e];exact(i z q).2
   ·rw[ssK_mem];exact(j.map _).mem_iff
  refine⟨.ref D,_,I.laid (t':=E) Z hD (show ObjOk X.prog X.w _ C D (.lst (f.map λz=>V.ref z.2)) from⟨?_,f.map (λz=>Value.ref z.2),n,zvr f,Y⟩),rfl,h f D (λy hy=>j.mem_iff.mp hy) d (I.hok.fresh hD)⟩
  rw[Zd,j.length_eq,Ku];omega
 ·obtain⟨v,e,q⟩:=q.one
  obtain⟨a,xs,e1,sq,r⟩:=q.lst
  obtain⟨g,h1,C,G⟩:=zsy r O
  subst e1;subst h1;subst C;refine⟨a,g,e,R.sub.seq sq,λz i=>⟨Same.tup R.sub (G z i).1,(G z i).2⟩,by simpa using J,A,λf p m d j=>?_⟩
  obtain⟨L,M,N⟩:=R.put (.lst (f.map λz=>V.ref z.2)) j
  refine k _ _ _ (Same.refl _) L (RW.n M N Bm ?_);rw[<-d,Yd];clear d j L M N k;induction f with
  |nil=>exact DenL.nil
  |cons y f ih=>
   exact DenL.cons (Den.tup_mk (G y (m y (.head _))).1 (DenL.ints _)) (ih λz i=>m z (.tail _ i))
end
open PySem L2 PyProof.Rows
inductive Op where
 |add|sub|mul|fdiv|mod|pow
inductive Cm where
 |lt|le|gt|ge|eq|ne|isN|notN|isin|notin
inductive Ty where
 |int|bool|tuple|list
inductive Bi where
 |len|abs|min|max|sum|srt
inductive Fm where
 |ss|rev|lset|tupl|zip
inductive Tg where
 |name (i:Nat)|tup (l:List Nat)
mutual
inductive E where
 |var (i:Nat)|int (i:Int)|bl (b:Bool)|non
 |bin (o:Op) (a b:E)|neg (a:E)|cmp (c:Cm) (a b:E)
 |and (a b:E)|or (a b:E)|not (a:E)|ife (c a b:E)
 |tup (l:Es)|lst (l:Es)|ix (a b:E)|sl (a:E) (lo hi:EO)
 |call (f:Nat) (l:Es)|bi (f:Bi) (l:Es)|isi (a:E) (t:Ty)|isx (a:E) (ys:List Str)
 |idx (a b:E)|fld (a:E) (j:Nat)|fm (f:Fm) (l:Es)|lcp (a:E)|comp (elt:E) (t:Tg) (it:It') (nt:Nat) (fr:List Nat) (c:EO)
inductive Es where
 |nil|cons (e:E) (l:Es)
inductive EO where
 |non|som (e:E)
inductive It' where
 |seq (e:E)|seqV (i:Nat)|range1 (a:E)|range2 (a b:E)|enum (e:E)|rev (e:E)|zip (a b:E)
end
mutual
inductive S where
 |asg (i:Nat) (e:E)|unp (l:List Nat) (e:E)|par (i j:Nat) (a b:E)
 |ret (e:E)|retV (i:Nat)|iff (c:E) (a b:Ss)|whl (c:E) (b:Ss)|frr (t:Tg) (it:It') (b:Ss)|tryC (f g:Nat) (l:Es) (i j:Nat)|app (i:Nat) (e:E)|pop (i:Nat)|clr (i:Nat)|seti (i:Nat) (k e:E)|never
inductive Ss where
 |nil|cons (s:S) (l:Ss)
end
def Bn(a b:Int):Bool:=decide (a.natAbs<2^16000) && decide (b.natAbs<2^16000)
def zbm(b:Int):Bool:=decide (b≠0) && decide (b.natAbs<2^9000)
def zfz(a b:Int):Bool:=decide (0<=b) && decide (b<=1000) && decide (a.natAbs<2^64)
def addW:D->D->Option W
 |.int a,.int b=>some (.val (.int (a+b)))
 |.lst a,.lst b=>if a.length+b.length<=sizeLine then some (.new (a++b)) else none
 |_,_=>none
def arW(f:Int->Int->Option W):D->D->Option W
 |.int a,.int b=>f a b
 |_,_=>none
def opW:Op->D->D->Option W
 |.add,x,y=>addW x y
 |.sub,x,y=>arW (λa b=>some (.val (.int (a-b)))) x y
 |.mul,x,y=>arW (λa b=>if Bn a b=true then some (.val (.int (a*b))) else none) x y
 |.fdiv,x,y=>arW (λa b=>if zbm b=true then some (.val (.int (a.fdiv b))) else none) x y
 |.mod,x,y=>arW (λa b=>if b=0 then none else some (.val (.int (a.fmod b)))) x y
 |.pow,x,y=>arW (λa b=>if zfz a b=true then some (.val (.int (a^b.toNat))) else none) x y
def ordO(f:Int->Int->Bool):D->D->Option Bool
 |.int a,.int b=>some (f a b)
 |_,_=>none
def eqO:D->D->Option Bool
 |.int a,.int b=>some (decide (a=b))
 |.bl a,.bl b=>some (a == b)
 |.tup a,.tup b=>if (dOkL 49 a && dOkL 49 b)=true then some (eqL a b) else none
 |.lst a,.lst b=>if (dOkL 49 a && dOkL 49 b)=true then some (eqL a b) else none
 |_,_=>none
def inO(x:D):D->Option Bool
 |.lst l=>if (dOk 50 x && dOkL 49 l)=true then some (l.any λy=>eqD y x) else none
 |_=>none
def nonO(x:D):D->Option Bool
 |.non=>some (zor x)
 |_=>none
def cmpD:Cm->D->D->Option Bool
 |.lt,x,y=>ordO (λa b=>decide (a<b)) x y
 |.le,x,y=>ordO (λa b=>decide (a<=b)) x y
 |.gt,x,y=>ordO (λa b=>decide (b<a)) x y
 |.ge,x,y=>ordO (λa b=>decide (b<=a)) x y
 |.eq,x,y=>eqO x y
 |.ne,x,y=>(eqO x y).map not
 |.isin,x,y=>inO x y
 |.notin,x,y=>(inO x y).map not
 |.isN,x,y=>nonO x y
 |.notN,x,y=>(nonO x y).map not
def isTy:Ty->D->Bool
 |.int,.int _=>true
 |.int,.bl _=>true
 |.bool,.bl _=>true
 |.tuple,.tup _=>true
 |.list,.lst _=>true
 |_,_=>false
def zuq(t:Ty):D->Option Bool
 |.exc _=>none
 |.obj _ _=>none
 |d=>some (isTy t d)
def lenW:∅
 |[.lst l]=>some (.val (.int l.length))
 |[.tup l]=>some (.val (.int l.length))
 |_=>none
def absW:∅
 |[.int i]=>some (.val (.int (if i<0 then -i else i)))
 |_=>none
def minW:∅
 |[.int i,.int j]=>some (.val (.int (if j<i then j else i)))
 |[.lst l]=>(minN l).map W.val
 |_=>none
def maxW:∅
 |[.int i,.int j]=>some (.val (.int (if i<j then j else i)))
 |[.lst l]=>((zme l).bind maxI).map λm=>.val (.int m)
 |_=>none
def sumW:∅
 |[.lst l]=>(zme l).map λd=>.val (.int (sumI d))
 |_=>none
def biW:Bi->∅
 |.len,d=>lenW d
 |.abs,d=>absW d
 |.min,d=>minW d
 |.max,d=>maxW d
 |.sum,d=>sumW d
 |.srt,d=>srtW d
def ixD:D->D->Option D
 |.tup l,.int i=>atI l i
 |.lst l,.int i=>atI l i
 |_,_=>none
def slD:D->Option Int->Option Int->Option W
 |.lst l,i,j=>some (.new (cutD l i j))
 |_,_,_=>none
def zbt:D->Option Bool
 |.bl b=>some b
 |_=>none
def dInt:D->Option Int
 |.int i=>some i
 |_=>none
def fldD(j:Nat):D->Option D
 |.obj _ l=>l[j]?
 |_=>none
def lcpW:D->Option W
 |.lst l=>some (.new l)
 |.tup l=>some (.new l)
 |_=>none
def fmW:Fm->∅
 |.tupl,[.lst l]=>some (.val (.tup l))
 |.zip,[.lst a,.lst b]=>if a.length=b.length then some (.new (zipD a b)) else none
 |_,_=>none
def tgOk(n:Nat):Tg->Bool
 |.name i=>decide (i<n)
 |.tup l=>l.all λi=>decide (i<n)
def setE(e:Rho)(i:Nat)(d:D):Option Rho:=if i<e.length then some (e.set i (some d)) else none
def zcl:List Nat->List D->Rho->Option Rho
 |[],[],e=>some e
 |i::f,d::g,e=>(setE e i d).bind (zcl f g)
 |_,_,_=>none
def zby:Tg->D->Rho->Option Rho
 |.name i,d,e=>setE e i d
 |.tup f,.tup g,e=>zcl f g e
 |_,_,_=>none
def zea(l:List D):List D:=l.zipIdx.map λp=>D.tup [.int (p.2:Int),p.1]
def seqD:D->Option (List D)
 |.lst l=>some l
 |.tup l=>some l
 |_=>none
def lstD:D->Option (List D)
 |.lst l=>some l
 |_=>none
def varD(e:Rho)(i:Nat):Option D:=match e[i]? with
 |some (some d)=>some d
 |_=>none
section
variable(Γ:Nat->∅)
mutual
def ev:E->Rho->Option W
 |.var i,e=>(varD e i).map W.val
 |.int i,_=>some (.val (.int i))
 |.bl b,_=>some (.val (.bl b))
 |.non,_=>some (.val .non)
 |.bin o a b,e=>((ev a e).map W.d).bind λx=>((ev b e).map W.d).bind λy=>opW o x y
 |.neg a,e=>(((ev a e).map W.d).bind dInt).map λi=>.val (.int (-i))
 |.cmp c a b,e=>((ev a e).map W.d).bind λx=>((ev b e).map W.d).bind λy=>(cmpD c x y).map λk=>.val (.bl k)
 |.and a b,e=>(((ev a e).map W.d).bind zbt).bind λk=>if k=true then ev b e else some (.val (.bl false))
 |.or a b,e=>(((ev a e).map W.d).bind zbt).bind λk=>if k=true then some (.val (.bl true)) else ev b e
 |.not a,e=>(((ev a e).map W.d).bind zbt).map λk=>.val (.bl (!k))
 |.ife c a b,e=>(((ev c e).map W.d).bind zbt).bind λk=>if k=true then ev a e else ev b e
 |.tup l,e=>(evs l e).bind λg=>if g.length<=sizeLine then some (.val (.tup g)) else none
 |.lst l,e=>(evs l e).bind λg=>if g.length<=sizeLine then some (.new g) else none
 |.ix a b,e=>((ev a e).map W.d).bind λx=>((ev b e).map W.d).bind λy=>(ixD x y).map W.val
 |.sl a lo q,e=>((ev a e).map W.d).bind λx=>(evo lo e).bind λi=>(evo q e).bind λj=>slD x i j
 |.call f l,e=>(evs l e).bind λg=>Γ f g
 |.bi f l,e=>(evs l e).bind λg=>biW f g
 |.isi a t,e=>((ev a e).map W.d).bind λd=>(zuq t d).map λk=>.val (.bl k)
 |.isx a r,e=>((ev a e).map W.d).bind λd=>(isX r d).map λk=>.val (.bl k)
 |.idx a b,e=>((ev a e).map W.d).bind λx=>((ev b e).map W.d).bind λy=>idxW x y
 |.fld a j,e=>(((ev a e).map W.d).bind (fldD j)).map W.val
 |.fm f l,e=>(evs l e).bind λg=>fmW f g
 |.lcp a,e=>((ev a e).map W.d).bind lcpW
 |.comp n t s p fr c,e=>(evW s e).bind λh=>if h.length<=sizeLine/\tgOk p t=true then
   (zcg (λd=>(zby t d (blkR p fr e)).bind λm=>(evc c m).bind λk=>if k=true then((ev n m).map W.d).map some else some none) h).map W.new else none
def evs:Es->Rho->Option (List D)
 |.nil,_=>some []
 |.cons e l,f=>((ev e f).map W.d).bind λd=>(evs l f).map λg=>d::g
def evo:EO->Rho->Option (Option Int)
 |.non,_=>some none
 |.som e,f=>(((ev e f).map W.d).bind dInt).map some
def evc:EO->Rho->Option Bool
 |.non,_=>some true
 |.som e,f=>((ev e f).map W.d).bind zbt
def evW:It'->Rho->Option (List D)
 |.seq e,f=>((ev e f).map W.d).bind seqD
 |.seqV i,f=>(varD f i).bind seqD
 |.range1 a,f=>(((ev a f).map W.d).bind dInt).bind λn=>if -(2^62)<=n/\n<2^62 then some (B8 0 n.toNat) else none
 |.range2 a b,f=>(((ev a f).map W.d).bind dInt).bind λm=>(((ev b f).map W.d).bind dInt).bind λn=>
   if -(2^62)<=m/\m<2^62 /\ -(2^62)<=n/\n<2^62 then some (B8 m (n-m).toNat) else none
 |.enum e,f=>(((ev e f).map W.d).bind lstD).map zea
 |.rev e,f=>(((ev e f).map W.d).bind lstD).map List.reverse
 |.zip a b,f=>(((ev a f).map W.d).bind sqD).bind λl=>(((ev b f).map W.d).bind sqD).bind λm=>if l.length=m.length then some (zipD l m) else none
end
def evB(e:E)(f:RhoS):Option Bool:=((ev Γ e (view f)).map W.d).bind zbt
def setR(d:RhoS)(i:Nat)(b:B):Option RhoS:=if i<d.length then some (d.set i (some b)) else none
def zgg:List Nat->List D->RhoS->Option RhoS
 |[],[],e=>some e
 |i::f,d::g,e=>(setR e i (.sh d)).bind (zgg f g)
 |_,_,_=>none
def Bv:Tg->D->RhoS->Option RhoS
 |.name i,d,e=>setR e i (.sh d)
 |.tup f,.tup g,e=>zgg f g e
 |_,_,_=>none
def seqB(d:RhoS):Option (Option B)->Option (List D×RhoS)
 |some (~~~.lst l)=>some (l,d)
 |some (~~~.tup l)=>some (l,d)
 |some (some (.ow l))=>some (l,frz d)
 |_=>none
def evI:It'->RhoS->Option (List D×RhoS)
 |.seqV i,f=>seqB f f[i]?
 |.seq e,f=>(ev Γ e (view f)).bind λw=>match w.d with
  |.lst l=>some (l,after w f)
  |.tup l=>some (l,after w f)
  |_=>none
 |.range1 a,f=>(((ev Γ a (view f)).map W.d).bind dInt).bind λn=>if -(2^62)<=n/\n<2^62 then some (B8 0 n.toNat,f) else none
 |.range2 a b,f=>(((ev Γ a (view f)).map W.d).bind dInt).bind λm=>(((ev Γ b (view f)).map W.d).bind dInt).bind λn=>
   if -(2^62)<=m/\m<2^62 /\ -(2^62)<=n/\n<2^62 then some (B8 m (n-m).toNat,f) else none
 |.enum e,f=>(ev Γ e (view f)).bind λw=>match w.d with
  |.lst l=>some (zea l,frz f)
  |_=>none
 |.rev _,_=>none
 |.zip a b,f=>(((ev Γ a (view f)).map W.d).bind sqD).bind λl=>(((ev Γ b (view f)).map W.d).bind sqD).bind λm=>if l.length=m.length then some (zipD l m,frz f) else none
open Classical in
def zkn(c:RhoS->Option Bool)(b:RhoS->Option Out)(d:RhoS):Option Out:=
 if h:∃n o,zaw c b n d=some o then zaw c b h.choose d else none
theorem zeg{c:RhoS->Option Bool}{b:RhoS->Option Out}:∀{n m:Nat}{d:RhoS}{o:Out},zaw c b n d=some o->n<=m->zaw c b m d=some o
 |0,_,_,_,h,_=>by cases h
 |n+1,0,_,_,_,h=>by omega
 |n+1,m+1,d,o,h,i=>by
  unfold zaw at h |-;cases e:c d with
  |none=>rw[e] at h;cases h
  |some k=>
   simp only[e] at h |-;cases k with
   |false=>exact h
   |true=>
    cases f:b d with
    |none=>simp only[f] at h;cases h
    |some o2=>
     simp only[f] at h |-;cases o2 with
     |rt w=>exact h
     |nx g=>exact zeg h vB
def zhz{c:RhoS->Option Bool}{b:RhoS->Option Out}{n:Nat}{e:RhoS}{o:Out}(h:zaw c b n e=some o):zkn c b e=some o:=by
 have d:∃n o,zaw c b n e=some o:=⟨n,o,h⟩;unfold zkn;rw[dif_pos d];obtain⟨g,f⟩:=d.choose_spec
 rw[f];have a:=zeg h (Nat.le_max_left n d.choose);have b:=zeg f (Nat.le_max_right n d.choose);rw[a] at b;exact b.symm
def zkm{c:RhoS->Option Bool}{b:RhoS->Option Out}{d:RhoS}{o:Out}(h:zkn c b d=some o):∃n,zaw c b n d=some o:=by
 unfold zkn at h;by_cases e:∃n o,zaw c b n d=some o
 ·rw[dif_pos e] at h;exact⟨_,h⟩
 ·rw[dif_neg e] at h;cases h
mutual
def ex:S->RhoS->Option Out
 |.asg i e,h=>(ev Γ e (view h)).bind λw=>(setR (after w h) i w.b).map Out.nx
 |.unp o e,h=>(ev Γ e (view h)).bind λw=>(Bv (.tup o) w.d (after w h)).map Out.nx
 |.par i j a b,h=>((ev Γ a (view h)).map W.d).bind λx=>((ev Γ b (view h)).map W.d).bind λy=>
   if lf x=true/\lf y=true/\i≠j/\i<h.length/\j<h.length then some (.nx ((h.set i (~~~x)).set j (~~~y))) else none
 |.ret e,h=>(ev Γ e (view h)).map Out.rt
 |.retV i,h=>match h[i]? with
  |some (some (.ow l))=>some (.rt (.new l))
  |some (~~~d)=>some (.rt (.val d))
  |_=>none
 |.iff c a b,h=>(evB Γ c h).bind λk=>if k=true then exs a h else exs b h
 |.whl c b,h=>zkn (evB Γ c) (exs b) h
 |.frr t q b,h=>(evI Γ q h).bind λp=>forN (Bv t) (exs b) p.1 p.2
 |.tryC f g l i j,h=>(evs Γ l (view h)).bind λm=>match Γ g m with
  |some (.val (.exc z))=>if z∈zvm/\i≠j/\i<h.length then some (.nx (((frz h).set j none).set i (~~~.exc z))) else none
  |_=>(Γ f m).map λ_=>.nx (frz h)
 |.app i e,h=>(ev Γ e (view h)).bind λw=>match h[i]?,w with
  |some (some (.ow l)),.val d=>if lf d=true/\l.length<sizeLine then some (.nx (h.set i (some (.ow (l++[d]))))) else none
  |_,_=>none
 |.pop i,h=>match h[i]? with
  |some (some (.ow l))=>if l=[] then none else some (.nx (h.set i (some (.ow l.dropLast))))
  |_=>none
 |.clr i,h=>match h[i]? with
  |some (some (.ow _))=>some (.nx (h.set i (some (.ow []))))
  |_=>none
 |.seti i k e,h=>(ev Γ e (view h)).bind λw=>(((ev Γ k (view h)).map W.d).bind dInt).bind λj=>match h[i]?,w with
  |some (some (.ow l)),.val d=>if lf d=true then(ixN l.length j).map λn=>.nx (h.set i (some (.ow (l.set n d)))) else none
  |_,_=>none
 |.never,_=>none
def exs:Ss->RhoS->Option Out
 |.nil,d=>some (.nx d)
 |.cons s l,d=>(ex s d).bind λo=>match o with
  |.nx e=>exs l e
  |.rt w=>some (.rt w)
end
def run(b:Ss)(n:Nat)(e:List D):Option W:=(exs Γ b (e.map (λd=>~~~d)++List.replicate (n-e.length) none)).bind λo=>match o with
 |.rt w=>some w
 |.nx _=>some (.val .non)
end
open PySem L2 PyProof.Rows
section
variable{X:Cx}{e a b c:Expr}{es:List Expr}{ρ:RhoS}{pos:Pos}
def zkk{d:Type}(l:List d)(i:Nat):l.zipIdx[i]? = (l[i]?).map λx=>(x,i):=by simp
def DI.enum{h:List Expr}{t:Nat}{tp p:Pos}{l:List D}(u:Gl X "enumerate")(w:X.mg "enumerate" = none)(A:DA X [a] (view ρ) [.lst l])(B:Bf a=true):
  DI X (.Tuple h t tp) (.Call (.Name "enumerate" p) [a] [] pos) ρ (zea l) (frz ρ):=λC E=>
 PI.mono (zxh u w (A C E) (Bl B)) λW H R ⟨F,S,k⟩=>by
  obtain⟨Y,G⟩:=S.borrow
  refine⟨_,G,λZ I J K R2 q=>?_⟩
  obtain⟨L,M⟩:=S.freeze K R2
  obtain⟨v,e,q⟩:=q.one
  obtain⟨a,j,N,m,r⟩:=q.lst
  subst N;refine⟨a,e,⟨j,R2.sub.seq m⟩,k _ I J L M λi H' n=>⟨λd g=>?_,λf=>⟨j,n.seq m,?_⟩⟩⟩
  ·unfold zea at g;rw[Zi,zkk] at g;cases o:l[i]? with
   |none=>rw[o] at g;cases g
   |some O=>
    rw[o] at g;cases g;obtain⟨y,s,P⟩:=r.get o
    refine⟨⟨j,y,n.seq m,s⟩,λx Q ⟨p,z,T,ex,U,V⟩=>?_⟩
    have:=V j (n.seq m)
    rw[s] at this;cases this;exact .inr ⟨p,_,[.int (i:Int),O],T,U,ex,rfl,DenL.cons Den.int_mk (DenL.cons P DenL.nil)⟩
  ·unfold zea at f;rw[Zd,Uc] at f;rw[r.length];exact f
def Ty.nm:Ty->String
 |.int => "int" | .bool => "bool" | .tuple => "tuple" | .list => "list"
def tyTy:Ty->Ty->Bool
 |.int,.int=>true
 |.int,.bool=>true
 |.bool,.bool=>true
 |.tuple,.tuple=>true
 |.list,.list=>true
 |_,_=>false
def zmb(K:vE):∀(t:Ty) (u:Ty),PySem.W.kitOne K (.type u.nm) (.type t.nm)=some (tyTy t u):=by
 intro t u;cases t<;>cases u<;>kernel_rfl
def ykx(K:vE):∀(t:Ty),PySem.W.kitOne K (.type "NoneType") (.type t.nm)=some false:=by
 intro t;cases t<;>kernel_rfl
def isi_ok{f:List (Addr×Obj)}{G:L2.St}{F H:Hp}{s:Shared}{A:Around}{E:Value->Shared->Prop}{Q:Value->Shared->Prop}{d:D}{v:V}{u:Value}{t:Ty}(I:Inv X f G H s)(B:Same F H)(h:Den X.K F d v)(r:RelV v u)(C:zuq t d=some (isTy t d))
 (q:∀J,Q (.bool (isTy t d)) {s with toks:=J}):wpAny (model X.prog X.w) A (call (.builtin "isinstance") [u,.type t.nm]) Q E s:=by
 cases d with
 |non=>
  rw[h.non] at r;cases(show u=Value.none from r)
  exact Kv PySem.W.kitx_none I.kIn True.intro (by rw[ykx X.K t]) (λz=>nomatch z) (by cases t<;>exact q)
 |bl b=>
  rw[h.bl] at r;cases(show u=Value.bool b from r)
  exact Kv PySem.W.kitx_bool I.kIn True.intro (zmb X.K t .bool) (λz=>nomatch z) (by cases t<;>exact q)
 |int i=>
  rw[h.int] at r;obtain⟨M,e⟩:=(show ∃t,u=Value.int i t from r)
  cases e;exact Kv PySem.W.kitx_int I.kIn True.intro (zmb X.K t .int) (λz=>nomatch z) (by cases t<;>exact q)
 |tup l=>
  obtain⟨a,L,e,g,_⟩:=h.tup
  rw[e] at r;cases(show u=Value.ref a from r)
  obtain⟨j,_,⟨o,m,p,_⟩,_⟩:=I.tuple (Same.tup B g)
  exact Kv PySem.W.kitx_tuple I.kIn ⟨o,m,p⟩ (zmb X.K t .tuple) (λz=>nomatch z) (by cases t<;>exact q)
 |lst l=>
  obtain⟨a,L,e,g,_⟩:=h.lst
  rw[e] at r;cases(show u=Value.ref a from r)
  obtain⟨j,_,⟨o,n,m,p,_⟩,_⟩:=I.list (B.seq g)
  exact Kv PySem.W.kitx_list I.kIn ⟨o,m,p⟩ (zmb X.K t .list) (λz=>nomatch z) (by cases t<;>exact q)
 |exc x=>cases C
 |obj a l=>cases C
def zjk:bootBuiltins "isinstance" = some (.builtin "isinstance"):=by decide +kernel
def ymx(t:Ty):bootBuiltins (Str.ofString t.nm)=some (.type t.nm):=by cases t<;>decide +kernel
def yeo(t:Ty)(d:D)(f:zuq t d=some (isTy t d)):zgi X (.builtin "isinstance") (λg H Q=>∃F v,g=[v,.ty t.nm]/\Same F H/\Den X.K F d v/\Q (.bl (isTy t d)) H):=by
 intro pins s o H p w Q I r ⟨F,v,e,i,h,q⟩;subst e;obtain⟨u,j,e,l,m⟩:=yat r
 subst e;cases(show j=Value.type t.nm from m)
 exact isi_ok I i h l f λn=>⟨.bl _,H,I.tok n,rfl,q⟩
def DE.isi{t:Ty}{d:D}{x:Str}{p g:Pos}{ρ:Rho}(l:zuq t d=some (isTy t d))(m:DF X a ρ d)(h:Bf a=true)(n:Gl X "isinstance")(o:X.mg "isinstance" = none)(q:x=Str.ofString t.nm)(e:Gl X x)(f:X.mg x=none):
  DE X (.Call (.Name "isinstance" p) [a,.Name x g] [] pos) ρ (.val (.bl (isTy t d))):=λr s=>by
 subst q;have u:PE X (.Name (Str.ofString t.nm) g) (tC (.ty t.nm)):=yjq e f (ymx t) rfl (by cases t<;>decide) (by cases t<;>decide);refine PE.mono (zrz (yeo t d l) n o zjk (zcc (m r s) (zcc u zgk) (Bl h)) vA vA (Bl h) rfl) λB H Q ⟨F,R,k⟩=>?_;exact⟨F,R,λv w i z j A=>⟨i,v,rfl,j.sub,A,k _ w i z j RW.bl⟩⟩
end
open PySem L2 PyProof.Rows
section
variable{X:Cx}{e a b c t tg:Expr}{es ts:List Expr}{ρ ρ' ρ2:Rho}{pos:Pos}{d:D}{ds:List D}{w:W}
def zto{K:vE}{F:Hp}{a:Addr}{e:List V}{l:List D}(f:SqL K F a e)(r:DenL K F l e):Walks K F (Itl K a) l:=λi s g=>⟨λd m=>by
 obtain⟨y,j,n⟩:=r.get m
 refine⟨⟨e,y,g.seq f,j⟩,λx o ⟨p,q⟩=>?_⟩
 have:=q e (g.seq f)
 rw[j] at this;cases this;exact .inl ⟨p,n⟩,λh=>⟨e,g.seq f,by rw[r.length];exact h⟩⟩
def zvn{K:vE}{F:Hp}{a:Addr}{e:List V}{l:List D}(f:SqT K F a e)(r:DenL K F l e):Walks K F (Itt K a) l:=λi s g=>⟨λd m=>by
 obtain⟨y,j,n⟩:=r.get m
 refine⟨⟨e,y,Same.tup g f,j⟩,λx o ⟨p,q⟩=>?_⟩
 have:=q e (Same.tup g f)
 rw[j] at this;cases this;exact .inl ⟨p,n⟩,λh=>⟨e,Same.tup g f,by rw[r.length];exact h⟩⟩
def ztp{K:vE}{F:Hp}{a:Addr}{g:List V}{l:List D}(h:SqL K F a g)(r:DenL K F l g):Walks K F (Ite K a) (zea l):=λi w j=>⟨λd f=>by
 unfold zea at f;rw[Zi,zkk] at f;cases m:l[i]? with
 |none=>rw[m] at f;cases f
 |some o=>
  rw[m] at f;cases f;obtain⟨y,n,q⟩:=r.get m
  refine⟨⟨g,y,j.seq h,n⟩,λx s ⟨p,z,t,ex,u,v⟩=>?_⟩
  have:=v g (j.seq h)
  rw[n] at this;cases this;exact .inr ⟨p,_,[.int (i:Int),o],t,u,ex,rfl,DenL.cons Den.int_mk (DenL.cons q DenL.nil)⟩,λe=>⟨g,j.seq h,by
 unfold zea at e;rw[Zd,Uc] at e;rw[r.length];exact e⟩⟩
def DIe.list{l:List D}(f:DF X e ρ (.lst l)):DIe X tg e ρ l:=λg h=>PI.mono (zqd (f g h)) λs H R ⟨F,i,k⟩=>⟨F,i,λv j m n R2 q=>by
 obtain⟨a,o,p,d,r⟩:=q.lst
 exact⟨a,p,⟨o,R2.sub.seq d⟩,k _ j m n R2 (zto d r)⟩⟩
theorem DIe.tup{l:List D}(f:DF X e ρ (.tup l)):DIe X tg e ρ l:=λg h=>PI.mono (zxg (f g h)) λs H R ⟨F,i,k⟩=>⟨F,i,λv j m n R2 q=>by
 obtain⟨a,o,p,d,r⟩:=q.tup
 exact⟨a,p,⟨o,Same.tup R2.sub d⟩,k _ j m n R2 (zvn d r)⟩⟩
def DIe.range1{p:Pos}{n:Int}(d:Gl X "range")(f:X.mg "range" = none)(g:DA X [a] ρ [.int n])(h:Bf a=true)(i : -(2^62)<=n)(j:n<2^62):DIe X tg (.Call (.Name "range" p) [a] [] pos) ρ (B8 0 n.toNat):=λl m=>
 PI.mono (zis d f (g l m) (Bl h)) λu H R ⟨F,o,k⟩=>⟨F,o,λw r s t R2 q=>by
  obtain⟨v,e,q⟩:=q.one
  rw[q.int] at e;exact⟨n,e,i,j,k _ r s t R2 zci⟩⟩
def DIe.range2{p:Pos}{m n:Int}(f:Gl X "range")(g:X.mg "range" = none)(i:DA X [a,b] ρ [.int m,.int n])(j:Bf a=true)(d:Bf b=true)(h : -(2^62)<=m/\m<2^62 /\ -(2^62)<=n/\n<2^62):
  DIe X tg (.Call (.Name "range" p) [a,b] [] pos) ρ (B8 m (n-m).toNat):=λl o=>
 PI.mono (zny f g (i l o) (by rw[Bl j,Bl d];rfl) (by rw[Bl d];rfl)) λB H R ⟨F,r,k⟩=>⟨F,r,λC s t w R2 q=>by
  obtain⟨v,u,e,z,A⟩:=q.two
  rw[z.int,A.int] at e;exact⟨m,n,e,h,k _ s t w R2 zci⟩⟩
def DIe.enum{d:List Expr}{g:Nat}{tp p:Pos}{l:List D}(h:Gl X "enumerate")(i:X.mg "enumerate" = none)(j:DA X [a] ρ [.lst l])(m:Bf a=true):DIe X (.Tuple d g tp) (.Call (.Name "enumerate" p) [a] [] pos) ρ (zea l):=λn o=>
 PI.mono (zxh h i (j n o) (Bl m)) λB H R ⟨F,s,k⟩=>⟨F,s,λC t u w R2 q=>by
  obtain⟨v,e,q⟩:=q.one
  obtain⟨a,z,A,f,r⟩:=q.lst
  subst A;exact⟨a,e,⟨z,R2.sub.seq f⟩,k _ t u w R2 (ztp f r)⟩⟩
theorem ER.set{K:vE}{H0 Fc F H:Hp}{σ:L2.St}(R:ER K H0 Fc F H σ ρ){i:Nat}{v:V}(q:Den K F d v)(g:i<ρ.length)(h:i<σ.length):ER K H0 Fc F H (σ.set i (some v)) (ρ.set i (some d)):=
 ⟨R.sub,R.same,R.base,R.new,λj l e=>by
  by_cases f:j=i
  ·subst f;rw[Yu g] at e;cases e;exact⟨v,Yu h,q⟩
  ·rw[Yi (Wn f)] at e |-;exact R.env j l e⟩
def DGe.name{i:Nat}{x:Str}(g:X.N.Nodup)(e:X.N[i]? = some x)(f:X.env.scope.names.lookup x=some .local)(h:i<ρ.length):DGe X (.Name x pos) d ρ (ρ.set i (some d)):=λj l=>
 PG.mono (zit g e (.inl f) (.inr f)) λv m H Q ⟨hlen,F,R,q,k⟩=>k _ (by rw[Wr];exact hlen) (R.set q h (by rw[hlen];exact(Zo.mp e).1))
def DGse(X:Cx)(tg:List Expr)(ds:List D)(ρ ρ':Rho):Prop:=∀e f,PGs X tg (λh g H Q=>g.length=X.N.length/\∃F,ER X.K e f F H g ρ/\DenL X.K F ds h/\∀d,d.length=X.N.length->ER X.K e f F H d ρ'->Q d H)
def DGse.nil:DGse X [] [] ρ ρ:=λf g=>PGs.mono zqe λh d H Q ⟨e,F,S,q,k⟩=>⟨q.inv_nil,k d e S⟩
def DGse.cons(i:DGe X t d ρ ρ')(j:DGse X ts ds ρ' ρ2)(l:Bf t=true):DGse X (t::ts) (d::ds) ρ ρ2:=λg h=>
 PGs.mono (zho (i g h) (j g h) (by rw[zbi l];rfl)) λu w H Q ⟨m,F,S,q,k⟩=>by
  obtain⟨v,r,e,n,o⟩:=q.inv_cons
  exact⟨v,r,e,m,F,S,n,λp f s=>⟨f,F,s,o,k⟩⟩
theorem DGe.tup{k}(g:X.calm=true)(h:DGse X ts ds ρ ρ')(f:ts.all Bf=true)(i:ds.length=ts.length):DGe X (.Tuple ts k pos) (.tup ds) ρ ρ':=λj l=>
 PG.mono (zxi (n:=ts.length) g (h j l) (zba f).1 (zba f).2) λv p H Q ⟨d,F,S,q,k⟩=>by
  obtain⟨a,m,e,o,r⟩:=q.tup
  exact⟨a,m,e,Same.tup S.sub o,by rw[r.length];exact i,d,F,S,r,k⟩
structure CompOk(X:Cx)(scope:Scope)(ts frees:List Str)(fr:List Nat):Prop where
 kind:scope.kind=.function
 cell:∀y∈scope.names,y.2 ≠ .cell
 names:∀y∈scope.names,y.2=.local->scope.names.lookup y.1=some .local
 all:∀y∈scope.names,y.2=.free->X.env.kindOf y.1=some .cell
 free:∀(m:Nat) (x:Str),frees[m]? = some x->scope.names.lookup x=some .free/\X.env.kindOf x=some .cell/\∃j:Nat,fr[m]? = some j/\X.N[j]? = some x
 len:fr.length=frees.length
def yfn(X:Cx)(scope:Scope)(N':List Str)(f:Cx):Prop:=∃g C d e ex,f=blk X scope g C N' d e ex
def zhu{e:List (Addr×Obj)}{s:Shared}{f:L2.St}{H:Hp}{scope:Scope}{ts d:List Str}{fr:List Nat}(I:Inv X e f H s)(g:CompOk X scope ts d fr):∀y∈scope.names,y.2=.free->∃c,X.env.cells.lookup y.1=some c:=
 λy h i=>I.ok.has y.1 (.inl (g.all y h i))
def DE.comp{z l:Expr}{r:List Expr}{scope:Scope}{ts h:List Str}{fr:List Nat}{g res:List D}{f:D->Option (Option D)}(t:X.calm=true)(q:CompOk X scope ts h fr)(hi:DIe X tg l ρ g)(hs:∀x,foldedSetIterable l X.env x=pure x)
 (N:g.length<=sizeLine)(A:zcg f g=some res)
 (B:∀(E:Cx),yfn X scope (ts++h) E->∀(d:D) (o:Option D),d∈g->f d=some o->∃p,DGe E tg d (blkR ts.length fr ρ) p/\(∀(i:Nat) d,(blkR ts.length fr ρ)[i]? = some (some d)->p[i]? = some (some d)) /\
   (match o with|none=>DTs E r p false|some e=>DTs E r p true/\DF E z p e)):
  DE X (.ListComp z [⟨tg,l,r,0⟩] scope pos) ρ (.new res):=by
 intro H0 Fc pins s O H Q I ⟨F,R,k⟩;rw[eval_ListComp];refine V9 (use:=none) rfl hs (yha (zhu I q)) q.kind q.names (thn (hi H0 Fc pins s O H (λJ G=>∃u,Same F u/\ER X.K H0 Fc u G O ρ/\Walks X.K u J g) I ⟨F,R,λJ G u s' P S=>⟨u,s',P,S⟩⟩) λv s1 h1=>thn h1 λa9 s2 h2=>?_);obtain⟨it,fp,tn,J,H1,w,I2,T,U,V,F1,W,R1,S⟩:=h2
 subst w;refine zky (K:=X.K) rfl (σ':=blkR ts.length fr O) (ρ0:=blkR ts.length fr ρ) (N':=ts++h) I2 t T U V q.kind q.cell (zhu I q) R1 ?_ ?_ ?_ S N A (λC L M d o hd ho=>B _ ⟨_,C,L,M,fp,rfl⟩ d o hd ho) ?_
 ·rw[zti,Z7,q.len]
 ·intro i d e;obtain⟨m,j,w,Y,Z⟩:=zdw e
  obtain⟨v,g1,g2⟩:=R1.env j d Z
  subst w;exact⟨v,yaa Y g1,g2⟩
 ·intro i x v w Y;obtain⟨m,j,Z,e4,e5⟩:=zdw Y
  subst Z;rw[Yb vB,show ts.length+m-ts.length=m by omega] at w;obtain⟨g1,g2,j',g3,g4⟩:=q.free m x w
  rw[e4] at g3;cases g3;exact⟨g1,g2,j,g4,e5⟩
 ·intro D C s5 G u ys m I5 a0 a1 a2 a3 a4 a5 a6 P a7 a8 hD dn;refine⟨m,a0,λh' sb=>⟨.ref D,G,I5.turned (t':=s5.toks) (λb o hb e=>sb.extBut b o hb e) a1 a2 (.inr a3) a4 a5,rfl,k _ G u (W.trans a6) P (RW.n a7 a8 hD dn)⟩⟩
def DS.asgComp{i:Nat}{x:Str}{px B:Pos}{t h:Expr}{p:List Expr}{scope:Scope}{ts l:List Str}{fr:List Nat}{g res:List D}{f:D->Option (Option D)}{ρ:RhoS}(hN:X.N.Nodup)(a3:X.N[i]? = some x)(hx:Loc X.env.scope x)(hf:X.fn x=true\/X.env.scope.names.lookup x=some .local)(hl:i<ρ.length)
 (a4:swapsWith (.ListComp t [⟨tg,h,p,0⟩] scope pos) (some (.Name x px)) B.line X.env=pure true)
 (G:X.calm=true)(E:CompOk X scope ts l fr)(hi:DIe X tg h (view ρ) g)(hs:∀x,foldedSetIterable h X.env x=pure x)
 (a5:g.length<=sizeLine)(P:zcg f g=some res)
 (U:∀(V:Cx),yfn X scope (ts++l) V->∀(d:D) (o:Option D),d∈g->f d=some o->∃r,DGe V tg d (blkR ts.length fr (view ρ)) r/\(∀(i:Nat) d,(blkR ts.length fr (view ρ))[i]? = some (some d)->r[i]? = some (some d)) /\
   (match o with|none=>DTs V p r false|some e=>DTs V p r true/\DF V t r e)):
  DS X (.Assign [.Name x px] (.ListComp t [⟨tg,h,p,0⟩] scope pos) B) ρ (.nx ((after (.new res) ρ).set i (some (.ow res)))):=by
 intro H0 Fc pins s σ H D I ⟨F,S,k⟩;obtain⟨s0,R⟩:=S.borrow
 rw[exec_Assign_Name_used _ _ _ _ a4];refine Zc (Ut (Zc ?_));show wpAny _ X.A (do let _ <-comprehension (.ListComp t [⟨tg,h,p,0⟩] scope pos) scope X.env _ (newList []) false (eval h X.env) (some (assign (.Name x px) X.env))) _ _ s;refine Zc (Ua (V9 (use:=some (assign (.Name x px) X.env)) (Q:=λ_ s'=>SP X pins D .next s') rfl hs (yha (zhu I E)) E.kind E.names (thn (hi H0 Fc pins s σ H (λJ M=>∃L,Same (DL.borrow F H σ ρ) L/\ER X.K H0 Fc L M σ (view ρ)/\Walks X.K L J g) I ⟨_,R,λJ M L s' R' wk=>⟨L,s',R',wk⟩⟩) λv s1 h1=>thn h1 λai s2 h2=>?_)) (λ_ s' hq=>Zp (Zp hq)) λ_ _ e=>e);obtain⟨it,fp,tn,J,H1,O,I2,T,a7,a8,F1,W,R1,wk⟩:=h2
 subst O;refine zky (K:=X.K) rfl (σ':=blkR ts.length fr σ) (ρ0:=blkR ts.length fr (view ρ)) (N':=ts++l) I2 G T a7 a8 E.kind E.cell (zhu I E) R1 ?_ ?_ ?_ wk a5 P (λC Y Z d o hd ho=>U _ ⟨_,C,Y,Z,fp,rfl⟩ d o hd ho) ?_
 ·rw[zti,Z7,E.len]
 ·intro i d e;obtain⟨m,j,O,e2,e3⟩:=zdw e
  obtain⟨v,g1,g2⟩:=R1.env j d e3
  subst O;exact⟨v,yaa e2 g1,g2⟩
 ·intro i x v O e2;obtain⟨m,j,e3,e4,e5⟩:=zdw e2
  subst e3;rw[Yb vB,show ts.length+m-ts.length=m by omega] at O;obtain⟨g1,g2,j',g3,g4⟩:=E.free m x O
  rw[e4] at g3;cases g3;exact⟨g1,g2,j,g4,e5⟩
 ·intro Da C s5 M L ys m I5 a9 aa a0 ab a1 ac a2 R' ae af hD dn;have q:RW X.K H0 L M (.new res) (.ref Da):=RW.n ae af hD dn;obtain⟨F3,s3,S3,q3⟩:=S.after (W.trans a2) R' q
  refine wpAny_assign_Name (zng I5 hN a3 hx (v:=.ref Da) (u:=.ref Da) rfl (λs6 I6 ⟨a6,ag,ah⟩=>⟨m,?_,λh' sb=>?_⟩) hf)
  ·refine a9.sameBut ag (λz=>?_);rcases ah with w|w
   ·exact a0 (z.trans w)
   ·exact a1 x a6 w z.symm
  ·refine⟨_,M,I6.turned (t':=s6.toks) (λb o hb e=>sb.extBut b o hb e) aa a0 (.inr ab) a1 ac,k _ M F3 s3 (S3.bind q3 ?_ (Owned.not_after S (W.trans a2) q))⟩
   rw[<-S3.len,S.len];exact hl
end
open PySem L2 PyProof.Rows
structure TC where
 N:List Str
 sc:Scope
 fns:List (Str×Nat×Nat)
 rzs:List (Str×Nat×Nat)
 xs:Bool
def ixOf(x:Str):List Str->Option Nat
 |[]=>none
 |y::l=>if x=y then some 0 else(ixOf x l).map (· + 1)
theorem zdu{x:Str}:∀{l:List Str}{i:Nat},ixOf x l=some i->l[i]? = some x
 |[],_,h=>by cases h
 |y::l,i,h=>by
  unfold ixOf at h;by_cases e:x=y
  ·rw[if_pos e] at h;cases h;simp[e]
  ·rw[if_neg e] at h;obtain⟨j,d,f⟩:=Zb.mp h
   subst f;simpa using zdu d
def slot(c:TC)(x:Str):Option Nat:=
 if (x == ("__debug__" : Str))=true\/(x == ("__classdict__" : Str))=true then none else match c.sc.names.lookup x with
  |some .local=>ixOf x c.N
  |some .cell=>ixOf x c.N
  |_=>none
def isGl(c:TC)(x:Str):Bool:=!(x == ("__debug__" : Str)) && decide (c.sc.names.lookup x=some .globalImplicit)
def trOp:Operator->Option Op
 |.Add=>some .add
 |.Sub=>some .sub
 |.Mult=>some .mul
 |.FloorDiv=>some .fdiv
 |.Mod=>some .mod
 |.Pow=>some .pow
 |_=>none
def trCm:CmpOp->Option Cm
 |.Lt=>some .lt
 |.LtE=>some .le
 |.Gt=>some .gt
 |.GtE=>some .ge
 |.Eq=>some .eq
 |.NotEq=>some .ne
 |.Is=>some .isN
 |.IsNot=>some .notN
 |.In=>some .isin
 |.NotIn=>some .notin
def trTy(x:Str):Option Ty:=
 if x=Str.ofString Ty.int.nm then some .int else if x=Str.ofString Ty.bool.nm then some .bool else if x=Str.ofString Ty.tuple.nm then some .tuple else if x=Str.ofString Ty.list.nm then some .list else none
def Bi.nm:Bi->String
 |.len => "len" | .abs => "abs" | .min => "min" | .max => "max" | .sum => "sum" | .srt => "sorted"
def trBi(x:Str):Option Bi:=if x=Str.ofString Bi.len.nm then some .len else if x=Str.ofString Bi.abs.nm then some .abs else if x=Str.ofString Bi.min.nm then some .min else if x=Str.ofString Bi.max.nm then some .max else if x=Str.ofString Bi.sum.nm then some .sum else if x=Str.ofString Bi.srt.nm then some .srt else none
inductive Hd where
 |fn (f n:Nat)|bi (b:Bi)|isi|lst|no
def zfk(c:TC)(x:Str):Hd:=
 if isGl c x=true then match c.fns.lookup x with
  |some (f,n)=>.fn f n
  |none=>match trBi x with
   |some b=>.bi b
   |none=>if x=("isinstance" : Str) then .isi else if x=("list" : Str) then .lst else .no
 else .no
def locs(d:Scope):List Str:=d.names.filterMap λy=>if y.2=NameKind.local then some y.1 else none
def frs'(d:Scope):List Str:=d.names.filterMap λy=>if y.2=NameKind.free then some y.1 else none
def relS(scope d:Scope):Scope:={scope with names:=scope.names.map λ(n,k)=>if (k == NameKind.free && d.kind == .function && d.names.lookup n == some .cell)=true then(n,NameKind.cell) else(n,k)}
def frIx(N:List Str):List Str->Option (List Nat)
 |[]=>some []
 |x::l=>(ixOf x N).bind λi=>(frIx N l).map λr=>i::r
def zva(c:TC)(scope:Scope):Bool:=
 decide (scope.kind=.function) && scope.names.all (λy=>decide (y.2 ≠ .cell)) && scope.names.all (λy=>decide (y.2=.local->scope.names.lookup y.1=some .local)) &&
 scope.names.all (λy=>decide (y.2=.free->c.sc.names.lookup y.1=some .cell/\scope.names.lookup y.1=some .free)) && decide ((locs scope++frs' scope).Nodup) && decide (c.sc.kind=.function)
def ydo:Expr->Bool
 |.Tuple _ _ _=>true
 |_=>false
def zyg:Expr->Bool
 |.Set _ _ _=>true
 |_=>false
def isB(c:TC)(x:Str)(y:String):Bool:=isGl c x && (c.fns.lookup x).isNone && decide (x=Str.ofString y)
def fmN(c:TC)(x:Str):List Expr->Option (Fm×List Expr)
 |[.Call (.Name y _) (a::d) [] _]=>if isB c x "list" = true/\isB c y "zip" = true then some (.zip,a::d) else none
 |_=>none
def fmT(c:TC)(x:Str):List Expr->Option (Fm×List Expr)
 |[a]=>if isB c x "tuple" = true then some (.tupl,[a]) else none
 |_=>none
def fmOf(c:TC)(x:Str)(d:List Expr):Option (Fm×List Expr):=match fmN c x d with
 |some r=>some r
 |none=>fmT c x d
def trI1(d:Expr->Option E)(c:TC)(h:Expr):Expr->Option It'
 |.Call (.Name x p) [a] [] q=>if isB c x "range" = true/\Bf a=true then(d a).map It'.range1 else if isB c x "enumerate" = true/\Bf a=true/\ydo h=true then(d a).map It'.enum else if isB c x "reversed" = true/\Bf a=true then(d a).map It'.rev else(d (.Call (.Name x p) [a] [] q)).map It'.seq
 |.Call (.Name x p) [a,b] [] q=>if isB c x "range" = true/\Bf a=true/\Bf b=true then(d a).bind λf=>(d b).map λg=>It'.range2 f g else if isB c x "zip" = true/\Bf a=true/\Bf b=true/\ydo h=true then(d a).bind λf=>(d b).map λg=>It'.zip f g else(d (.Call (.Name x p) [a,b] [] q)).map It'.seq
 |.Name x _=>(slot c x).map It'.seqV
 |e=>if zyg e=false then(d e).map It'.seq else none
def ybr(c:TC)(x:Str):Option Nat:=if c.sc.names.lookup x=some .local then ixOf x c.N else none
def zni(c:TC):List Expr->Option (List Nat)
 |[]=>some []
 |.Name x _::d=>(ybr c x).bind λi=>(zni c d).map λl=>i::l
 |_=>none
def ybh(c:TC):Expr->Option Tg
 |.Name x _=>(ybr c x).map Tg.name
 |.Tuple d _ _=>(zni c d).map Tg.tup
 |_=>none
def blkC(c:TC)(scope:Scope):TC:=⟨locs scope++frs' scope,relS scope c.sc,c.fns,c.rzs,c.xs⟩
def znx:Expr->Bool
 |.Name _ _=>true
 |.Constant _ _ _=>true
 |.Call _ _ _ _=>true
 |.Subscript _ _ _=>true
 |_=>false
def yhw(d:Expr->Option E)(p:Pos):List Expr->Option E
 |[a]=>d a
 |a::b::e=>(d a).bind λf=>(d (.BoolOp .And (b::e) p)).map λg=>.and f g
 |[]=>none
def trOr(d:Expr->Option E)(p:Pos):List Expr->Option E
 |[a]=>d a
 |a::b::e=>(d a).bind λf=>(d (.BoolOp .Or (b::e) p)).map λg=>.or f g
 |[]=>none
def trB(d:Expr->Option E)(p:Pos)(e:List Expr):BoolOp->Option E
 |.And=>yhw d p e
 |.Or=>trOr d p e
def trCp(d:Expr->Option E)(a:Expr):List CmpOp->List Expr->Option E
 |[e],[b]=>if behindInMarks e b=false then(trCm e).bind λo=>(d a).bind λf=>(d b).map λg=>.cmp o f g else none
 |_,_=>none
def trN(d:Expr->Option E)(a:Expr):UnaryOp->Option E
 |.Not=>(d a).map E.not
 |_=>none
def trT1(f:Expr->Option E)(g:Expr->Option E):Expr->Option E
 |.UnaryOp o a _=>trN g a o
 |.BoolOp o h p=>trB g p h o
 |.Compare a d i _=>trCp f a d i
 |e=>if znx e=true then f e else none
def zwb(d:Expr->Option E):List Expr->Option EO
 |[]=>some .non
 |[c]=>(d c).map EO.som
 |_=>none
def trK:Const->Option E
 |.int i=>some (.int i)
 |.bool b=>some (.bl b)
 |.none=>some .non
 |_=>none
def trU(d:Expr->Option E)(a:Expr):UnaryOp->Option E
 |.USub=>(d a).map E.neg
 |.Not=>(d a).map E.not
 |_=>none
def trLC(h:TC->Expr->Option E)(i:TC->Expr->Option E)(j:Expr->Option E)(c:TC)(d:Expr)(scope:Scope):List Comprehension->Option E
 |[⟨g,iter,f,0⟩]=>if zva c scope=true then(trI1 j c g iter).bind λl=>(ybh (blkC c scope) g).bind λt=>(frIx c.N (frs' scope)).bind λfr=>
   (h (blkC c scope) d).bind λe=>(zwb (i (blkC c scope)) f).map λk=>.comp e t l (locs scope).length fr k else none
 |_=>none
def trSb(d:Expr->Option E)(f:Option Expr->Option EO)(a:Expr):Expr->Option E
 |.Slice lo g none _=>(d a).bind λe=>(f lo).bind λl=>(f g).map λh=>.sl e l h
 |b=>if zdr b=true then(d a).bind λe=>(d b).map λi=>.ix e i else none
def trFd(d:Expr->Option E)(c:TC)(f:Str)(o:Expr):Option E:=
 if c.xs=true/\zxe o=true then(ixOf f flds).bind λj=>(d o).map λa=>.fld a j else none
def trIx(d:Expr->Option E)(c:TC)(f:Str)(x:Str)(g h:Pos)(e:Expr):Option E:=
 if f=("index" : Str)/\Bf e=true/\(g.endLine == h.line)=true then(slot c x).bind λi=>(d e).map λb=>.idx (.var i) b else none
def trE1(q:TC->Expr->Option E)(n:TC->Expr->Option E)(d:Expr->Option E)(h:List Expr->Option Es)(r:Option Expr->Option EO)(c:TC):Expr->Option E
 |.Name x _=>(slot c x).map E.var
 |.Constant k _ _=>trK k
 |.BinOp a s b _=>(trOp s).bind λo=>(d a).bind λi=>(d b).map λj=>.bin o i j
 |.UnaryOp o a _=>trU d a o
 |.BoolOp o g p=>trB d p g o
 |.Compare a l u _=>trCp d a l u
 |.Tuple g _ _=>(h g).map E.tup
 |.List g _=>(h g).map E.lst
 |.ListComp m v scope _=>trLC q n d c m scope v
 |.Subscript a b _=>trSb d r a b
 |.IfExp t a b _=>(n c t).bind λw=>(d a).bind λi=>(d b).map λj=>.ife w i j
 |.Attribute o f _=>trFd d c f o
 |.Call (.Attribute (.Name x _) z A) [e] [] B=>trIx d c z x A B e
 |.Call (.Name x _) (e::g) [] _=>match fmOf c x (e::g) with
  |some (f,C)=>(h C).map (E.fm f)
  |none=>match zfk c x with
  |.fn f k=>if (e::g).length=k then(h (e::g)).map (E.call f) else none
  |.bi b=>(h (e::g)).map (E.bi b)
  |.isi=>match g with
   |[.Name y _]=>if isGl c y=true/\Bf e=true then(match trTy y with
     |some t=>(d e).map λD=>.isi D t
     |none=>none) else none
   |_=>none
  |.lst=>match g with
   |[]=>if Bf e=true then(d e).map E.lcp else none
   |_=>none
  |.no=>none
 |_=>none
mutual
def trE:Nat->TC->Expr->Option E
 |0,_,_=>none
 |n+1,c,e=>trE1 (trE n) (trT n) (trE n c) (trEs n c) (trO n c) c e
def trEs:Nat->TC->List Expr->Option Es
 |0,_,_=>none
 |n+1,c,[]=>some .nil
 |n+1,c,e::d=>if Bf e=true then(trE n c e).bind λf=>(trEs n c d).map λl=>.cons f l else none
def trO:Nat->TC->Option Expr->Option EO
 |0,_,_=>none
 |n+1,c,none=>some .non
 |n+1,c,some e=>(trE n c e).map EO.som
def trT:Nat->TC->Expr->Option E
 |0,_,_=>none
 |n+1,c,e=>trT1 (trE n c) (trT n c) e
end
def znw{e:Expr}{env:Env}(h:znx e=true):∀d,isTrue e env d=(do let v <-d;standAt e.pos;holding [v] (truthy v)):=λd=>by
 cases e<;>first|rfl|(cases h;done)
abbrev zck:List Str:=[Str.ofString "len",Str.ofString "abs",Str.ofString "isinstance",Str.ofString "int",Str.ofString "bool",Str.ofString "tuple",Str.ofString "list",Str.ofString "range",Str.ofString "enumerate",Str.ofString "min",Str.ofString "max",Str.ofString "sorted",Str.ofString "set",Str.ofString "reversed",Str.ofString "zip",Str.ofString "sum"]
structure XE(X:Cx)(c:TC)(Γ:Nat->∅):Prop where
 hN:X.N=c.N
 hsc:X.env.scope=c.sc
 nd:c.N.Nodup
 calm:X.calm=true
 kind:X.env.scope.kind=.function
 calls:∀x f n,c.fns.lookup x=some (f,n)->yhj X x n (Γ f)
 xf:c.xs=true->BFacts X.K
 un:X.A.units+64<cLine
 blt:∀x∈zck,X.mg x=none
structure XC(X:Cx)(c:TC)(Γ:Nat->∅):Prop extends XE X c Γ where
 fn:∀x,X.fn x=true
 po:PassesOwn (model X.prog X.w) X.A X.env X.xe
 rz:∀x f n,c.rzs.lookup x=some (f,n)->yns X x n (Γ f)
 st:X.stack=X.env::X.outer
 fr:X.env.frame=some X.env.locals
 nx:X.nox=X
section
variable{X:Cx}{c:TC}{Γ:Nat->∅}
def zad(d:XE X c Γ){x:Str}{i:Nat}(h:slot c x=some i):X.N[i]? = some x/\Loc X.env.scope x/\(x == ("__debug__" : Str))=false/\(x == ("__classdict__" : Str))=false:=by
 unfold slot at h;by_cases z:(x == ("__debug__" : Str))=true\/(x == ("__classdict__" : Str))=true
 ·rw[if_pos z] at h;cases h
 ·rw[if_neg z] at h;have f:(x == ("__debug__" : Str))=false:=by
   cases q:(x == ("__debug__" : Str)) with
   |false=>rfl
   |true=>exact absurd (.inl q) z
  have g:(x == ("__classdict__" : Str))=false:=by
   cases q:(x == ("__classdict__" : Str)) with
   |false=>rfl
   |true=>exact absurd (.inr q) z
  split at h
  ·rename_i e;exact⟨by rw[d.hN];exact zdu h,by rw[d.hsc];exact .inl e,f,g⟩
  ·rename_i e;exact⟨by rw[d.hN];exact zdu h,by rw[d.hsc];exact .inr e,f,g⟩
  ·cases h
def Loc.vis{d:Scope}{x:Str}(h:Loc d x):Vis d x:=by
 rcases h with h|h
 ·exact .inl h
 ·exact .inr (.inl h)
def zco(d:XE X c Γ){x:Str}(h:isGl c x=true):Gl X x/\(x == ("__debug__" : Str))=false:=by
 unfold isGl at h;rw[Zj] at h;refine⟨?_,by simpa using h.1⟩
 show X.env.scope.names.lookup x=_;rw[d.hsc];exact of_decide_eq_true h.2
def zeu{f:Rho}{i:Nat}{d:D}(h:varD f i=some d):f[i]? = some (some d):=by
 unfold varD at h;split at h
 ·rename_i e;cases h;exact e
 ·cases h
def zdn{d:D}{i:Int}(h:dInt d=some i):d=.int i:=by
 cases d<;>first|(cases h;rfl)|(cases h;done)
def zuz{d:D}{i:Bool}(h:zbt d=some i):d=.bl i:=by
 cases d<;>first|(cases h;rfl)|(cases h;done)
def zog{o:Option W}{d:D}(h:o.map W.d=some d):∃w,o=some w/\w.d=d:=Zb.mp h
def yal{f:Int->Int->Option W}{x y:D}{w:W}(h:arW f x y=some w):∃a b,x=.int a/\y=.int b/\f a b=some w:=by
 unfold arW at h;split at h
 ·exact⟨_,_,rfl,rfl,h⟩
 ·cases h
def op_ok{v A:Expr}{t:Operator}{o:Op}{x y:D}{w:W}{u:Rho}{pos:Pos}(B:trOp t=some o)(f:DF X v u x)(g:DF X A u y)(h:opW o x y=some w):DE X (.BinOp v t A pos) u w:=by
 have e:∀{a:Int}{n:Nat},a.natAbs<2^n->Builtin.Int.intBits a<=n:=λ{a n} h=>by
  unfold Builtin.Int.intBits;by_cases z:a=0
  ·rw[if_pos (by simpa using z)];exact Yz _
  ·rw[if_neg (by simpa using z)];have:=(Nat.log2_lt vB).mpr h
   omega
 cases t<;>first|(cases B;done)|skip
 all_goals cases B
 ·change addW x y=some w at h
  unfold addW at h;split at h
  ·cases h;exact DE.opI0 op_add f g λK F=>Den.int_mk
  ·rename_i l m;by_cases q:l.length+m.length<=sizeLine
   ·rw[if_pos q] at h;cases h;exact DE.cat f g q
   ·rw[if_neg q] at h;cases h
  ·cases h
 ·obtain⟨i,j,rfl,rfl,d⟩:=yal h
  clear h;have h:=d;clear d;cases h;exact DE.opI0 op_sub f g λK F=>Den.int_mk
 ·obtain⟨i,j,rfl,rfl,d⟩:=yal h
  clear h;have h:=d;clear d;by_cases q:Bn i j=true
  ·rw[if_pos q] at h;cases h;unfold Bn at q;rw[Zj] at q;have p:=of_decide_eq_true q.1;have s:=of_decide_eq_true q.2;exact DE.opI (C:=IntMulOk) (L2.opI λ_ _ _ _ _ _ _ r q=>mul_int q r) f g (PySem.IntMulOk.of_bits (Wd (e p) vA) (Wd (e s) vA)) λK F=>Den.int_mk
  ·rw[if_neg q] at h;cases h
 ·obtain⟨i,j,rfl,rfl,d⟩:=yal h
  clear h;have h:=d;clear d;by_cases q:j=0
  ·rw[if_pos q] at h;cases h
  ·rw[if_neg q] at h;cases h;exact DE.opI yjw f g q λK F=>Den.int_mk
 ·obtain⟨i,j,rfl,rfl,d⟩:=yal h
  clear h;have h:=d;clear d;by_cases q:zfz i j=true
  ·rw[if_pos q] at h;cases h;unfold zfz at q;rw[Zj,Zj] at q;have p:=of_decide_eq_true q.1.1;have s:=of_decide_eq_true q.1.2;have E:=of_decide_eq_true q.2;exact DE.opI op_pow f g ⟨p,by omega,E⟩ λK F=>Den.int_mk
  ·rw[if_neg q] at h;cases h
 ·obtain⟨i,j,rfl,rfl,d⟩:=yal h
  clear h;have h:=d;clear d;by_cases q:zbm j=true
  ·rw[if_pos q] at h;cases h;unfold zbm at q;rw[Zj] at q;have p:=of_decide_eq_true q.1;have s:=of_decide_eq_true q.2;refine DE.opI (C:=λi j=>j≠0/\j.natAbs<2^9000) (L2.opI λ_ _ _ _ _ _ _ r q=>floordiv_int r.1 q (.inl (PyProof.noPylong_of_log2 ?_))) f g ⟨p,s⟩ λK F=>Den.int_mk
   refine(Nat.log2_lt ?_).mpr r.2;have:=r.1
   omega
  ·rw[if_neg q] at h;cases h
end
open PySem L2 PyProof.Rows
section
variable{X:Cx}{c:TC}{Γ:Nat->∅}
def zeb{a b:Bool}(h:(a && b)=true):a=true/\b=true:=by simpa using h
def zsb{f:Int->Int->Bool}{x y:D}{k:Bool}(h:ordO f x y=some k):∃a b,x=.int a/\y=.int b/\f a b=k:=by
 unfold ordO at h;split at h
 ·cases h;exact⟨_,_,rfl,rfl,rfl⟩
 ·cases h
def inO_s{x y:D}{k:Bool}(h:inO x y=some k):∃l,y=.lst l/\dOk 50 x=true/\dOkL 49 l=true/\(l.any λy=>eqD y x)=k:=by
 unfold inO at h;split at h
 ·split at h
  ·rename_i q;cases h;exact⟨_,rfl,(zeb q).1,(zeb q).2,rfl⟩
  ·cases h
 ·cases h
def ygj{x y:D}{k:Bool}(h:nonO x y=some k):y=.non/\zor x=k:=by
 unfold nonO at h;split at h
 ·cases h;exact⟨rfl,rfl⟩
 ·cases h
def ygv{x y:D}{k:Bool}(e:X.A.units+64<cLine)(h:eqO x y=some k):zcy X .Eq x y k/\zcy X .NotEq x y (!k):=by
 have f:∀{l:List D},dOkL 49 l=true->dOk 50 (.lst l)=true:=λq=>by simp only[dOk];exact q
 have g:∀{l:List D},dOkL 49 l=true->dOk 50 (.tup l)=true:=λq=>by simp only[dOk];exact q
 unfold eqO at h;split at h
 ·cases h;exact⟨ymr,ymn⟩
 ·cases h;exact⟨yms,ymo⟩
 ·split at h
  ·rename_i q;cases h;have z:=zzm (X:=X) e (g (zeb q).1) (g (zeb q).2);have d:=zzl (X:=X) e (g (zeb q).1) (g (zeb q).2);simp only[eqD] at z d;exact⟨z,d⟩
  ·cases h
 ·split at h
  ·rename_i q;cases h;have z:=zzm (X:=X) e (f (zeb q).1) (f (zeb q).2);have d:=zzl (X:=X) e (f (zeb q).1) (f (zeb q).2);simp only[eqD] at z d;exact⟨z,d⟩
  ·cases h
 ·cases h
def ygy{g:CmpOp}{o:Cm}{x y:D}{k:Bool}(f:X.A.units+64<cLine)(n:trCm g=some o)(h:cmpD o x y=some k):zcy X g x y k:=by
 cases g<;>first|(cases n;done)|skip
 all_goals cases n
 ·exact(ygv f h).1
 ·obtain⟨j,d,e⟩:=Zb.mp h
  subst e;exact(ygv f d).2
 ·obtain⟨a,b,rfl,rfl,rfl⟩:=zsb h
  exact cmp_lt
 ·obtain⟨a,b,rfl,rfl,rfl⟩:=zsb h
  exact cmp_le
 ·obtain⟨a,b,rfl,rfl,rfl⟩:=zsb h
  exact cmp_gt
 ·obtain⟨a,b,rfl,rfl,rfl⟩:=zsb h
  exact cmp_ge
 ·obtain⟨rfl,rfl⟩:=ygj h
  exact ymp
 ·obtain⟨j,d,e⟩:=Zb.mp h
  subst e;obtain⟨rfl,rfl⟩:=ygj d
  exact yek
 ·obtain⟨l,rfl,i,m,rfl⟩:=inO_s h
  exact ymq f i m
 ·obtain⟨j,d,e⟩:=Zb.mp h
  subst e;obtain⟨l,rfl,i,m,rfl⟩:=inO_s d
  exact yel f i m
def zvy{x:Str}{t:Ty}(h:trTy x=some t):x=Str.ofString t.nm:=by
 unfold trTy at h;repeat' split at h
 all_goals first|(cases h;assumption)|(cases h;done)
def zwc{x:Str}{t:Bi}(h:trBi x=some t):x=Str.ofString t.nm:=by
 unfold trBi at h;repeat' split at h
 all_goals first|(cases h;assumption)|(cases h;done)
def bi_ok{b:Bi}{d:List D}{w:W}(g:X.calm=true)(i:X.A.units+64<cLine)(h:biW b d=some w):zes X (.builtin b.nm) d w:=by
 cases b
 ·change lenW d=_ at h
  unfold lenW at h;split at h
  ·cases h;exact yey
  ·cases h;exact yex
  ·cases h
 ·change absW d=_ at h
  unfold absW at h;split at h
  ·cases h;exact ynd
  ·cases h
 ·change minW d=_ at h
  unfold minW at h;split at h
  ·cases h;exact ynb g
  ·obtain⟨m,f,e⟩:=Zb.mp h
   subst e;exact yeu g i f
  ·cases h
 ·change maxW d=_ at h
  unfold maxW at h;split at h
  ·cases h;exact ync g
  ·obtain⟨m,h,e⟩:=Zb.mp h
   obtain⟨j,f,l⟩:=Za.mp h
   subst e;exact yev g f l
  ·cases h
 ·change sumW d=_ at h
  unfold sumW at h;split at h
  ·obtain⟨j,f,e⟩:=Zb.mp h
   subst e;exact ymz g f
  ·cases h
 ·change srtW d=_ at h
  unfold srtW at h;split at h
  ·obtain⟨n,f,h⟩:=Za.mp h
   split at h
   ·rename_i q;cases h;exact yna g f q.1 q.2
   ·cases h
  ·cases h
def ymy(b:Bi):bootBuiltins (Str.ofString b.nm)=some (.builtin b.nm):=by cases b<;>decide +kernel
def yad(b:Bi):Str.ofString b.nm ≠ "__name__" /\ Str.ofString b.nm∈zck:=by cases b<;>decide +kernel
def yho(b:Ty):Str.ofString b.nm∈zck:=by cases b<;>decide +kernel
theorem zew:∀{n:Nat}{d:List Expr}{l:Es},trEs n c d=some l->d.all Bf=true
 |0,_,_,h=>by simp only[trEs] at h;cases h
 |n+1,[],_,_=>rfl
 |n+1,e::d,l,h=>by
  simp only[trEs] at h;by_cases q:Bf e=true
  ·rw[if_pos q] at h;obtain⟨f,_,h⟩:=Za.mp h
   obtain⟨g,h,_⟩:=Zb.mp h
   rw[Wz,q,zew h];rfl
  ·rw[if_neg q] at h;cases h
def ylr:∀{l:Es}{m:Rho}{i:List D}{n:Nat}{f:List Expr},trEs n c f=some l->evs Γ l m=some i->i.length=f.length:=by
 intro l m i n;induction n generalizing l i with
 |zero=>intro f h;simp only[trEs] at h;cases h
 |succ n o=>
  intro f h g;cases f with
  |nil=>
   simp only[trEs] at h;cases h;simp only[evs] at g;cases g;rfl
  |cons e f=>
   simp only[trEs] at h;by_cases q:Bf e=true
   ·rw[if_pos q] at h;obtain⟨s,_,h⟩:=Za.mp h
    obtain⟨t,p,z⟩:=Zb.mp h
    subst z;simp only[evs] at g;obtain⟨d,_,g⟩:=Za.mp g
    obtain⟨r,j,z⟩:=Zb.mp g
    subst z;rw[Zq,Zq,o p j]
   ·rw[if_neg q] at h;cases h
def zus{x:Str}(e:XE X c Γ)(d:zfk c x=.isi):x=("isinstance" : Str)/\Gl X "isinstance" := by
 unfold zfk at d;split at d
 ·rename_i f;split at d
  ·cases d
  ·split at d
   ·cases d
   ·split at d
    ·rename_i ex;subst ex;exact⟨rfl,(zco e f).1⟩
    ·split at d<;>cases d
 ·cases d
def zur{x:Str}(e:XE X c Γ)(d:zfk c x=.lst):x=("list" : Str)/\Gl X "list" := by
 unfold zfk at d;split at d
 ·rename_i f;split at d
  ·cases d
  ·split at d
   ·cases d
   ·split at d
    ·cases d
    ·split at d
     ·rename_i ex;subst ex;exact⟨rfl,(zco e f).1⟩
     ·cases d
 ·cases d
def zyo{x:Str}{f k:Nat}(e:XE X c Γ)(d:zfk c x=.fn f k):c.fns.lookup x=some (f,k)/\Gl X x/\(x == ("__debug__" : Str))=false:=by
 unfold zfk at d;split at d
 ·rename_i g;split at d
  ·rename_i i j h;cases d;exact⟨h,zco e g⟩
  ·split at d
   ·cases d
   ·split at d
    ·cases d
    ·split at d<;>cases d
 ·cases d
def zyp{x:Str}{b:Bi}(e:XE X c Γ)(d:zfk c x=.bi b):x=Str.ofString b.nm/\Gl X x/\(x == ("__debug__" : Str))=false:=by
 unfold zfk at d;split at d
 ·rename_i f;split at d
  ·cases d
  ·split at d
   ·rename_i h g;cases d;exact⟨zwc g,zco e f⟩
   ·split at d
    ·cases d
    ·split at d<;>cases d
 ·cases d
def zdd(d:XE X c Γ){x:Str}{y:String}(h:isB c x y=true):Gl X x/\x=Str.ofString y:=by
 unfold isB at h;rw[Zj,Zj] at h;exact⟨(zco d h.1.1).1,of_decide_eq_true h.2⟩
def ydw{x:Str}{e g:List Expr}{f:Fm}(h:fmN c x e=some (f,g)):∃y i j a d,e=[.Call (.Name y i) (a::d) [] j]/\g=a::d/\((f=.zip/\isB c x "list" = true/\isB c y "zip" = true)):=by
 unfold fmN at h;split at h
 ·split at h
  ·rename_i q;cases h;exact⟨_,_,_,_,_,rfl,rfl,⟨rfl,q.1,q.2⟩⟩
  ·cases h
 ·cases h
def fm_ok(g:XE X c Γ){x:Str}{p pos:Pos}{s m:List Expr}{f:Fm}{t:List D}{w:W}{u:Rho}(e:fmOf c x s=some (f,m))(j:m.all Bf=true)(v:DA X m u t)(d:fmW f t=some w):DE X (.Call (.Name x p) s [] pos) u w:=by
 have H:X.A.units+16<cLine:=by have:=g.un;omega
 unfold fmOf at e;split at e
 ·rename_i r z;cases e;obtain⟨y,I,J,a,B,rfl,rfl,h⟩:=ydw z
  rw[Wz,Zj] at j;rcases h with⟨rfl,n,C⟩
  ·obtain⟨o,q⟩:=zdd g n
   obtain⟨E,F⟩:=zdd g C
   subst q;subst F;unfold fmW at d;split at d
   all_goals first|(rename_i i;cases i;done)|skip
   all_goals first|(rename_i l i;cases i;done)|skip
   all_goals rename_i K L i
   ·split at d
    ·rename_i G;cases d;exact DE.nestT (yct g.calm G) o (g.blt _ (by decide +kernel)) (by decide +kernel) vA vA E (g.blt _ (by decide +kernel)) (by decide +kernel) vA vA v j.1 j.2
    ·cases d
   ·cases d
 ·unfold fmT at e;split at e
  ·split at e
   ·rename_i a n;cases e;obtain⟨o,q⟩:=zdd g n
    subst q;rw[Wz,Zj] at j;unfold fmW at d;split at d
    all_goals first|(rename_i i;cases i;done)|skip
    all_goals rename_i l i
    all_goals first|(cases i;done)|skip
    ·cases d;exact DE.ty zzy o (g.blt _ (by decide +kernel)) (by decide +kernel) vA vA v j.1 j.2
    ·cases d
   ·cases e
  ·cases e
def znm{d:D}{l:List D}(h:seqD d=some l):d=.lst l\/d=.tup l:=by
 cases d<;>first|(cases h;done)|(cases h;first|exact .inl rfl|exact .inr rfl)
def zoj{d:D}{l:List D}(h:lstD d=some l):d=.lst l:=by
 cases d<;>first|(cases h;done)|(cases h;rfl)
def yhu{A:Expr->Option E}(o:XE X c Γ)(u:∀{e j n d},A e=some j->(ev Γ j n).map W.d=some d->DF X e n d){v e:Expr}{i:It'}{n:Rho}{l:List D}(h:trI1 A c v e=some i)(f:evW Γ i n=some l):DIe X v e n l/\zyg e=false:=by
 have C:∀{e j n k},A e=some j->((ev Γ j n).map W.d).bind dInt=some k->DF X e n (.int k):=λ{e j n k} h f=>by
  obtain⟨d,g,p⟩:=Za.mp f
  rw[zdn p] at g;exact u h g
 have F:∀{e j n l},A e=some j->evW Γ (.seq j) n=some l->DIe X v e n l:=λ{e j n l} h f=>by
  simp only[evW] at f;obtain⟨d,g,p⟩:=Za.mp f
  rcases znm p with z|z
  ·subst z;exact DIe.list (u h g)
  ·subst z;exact DIe.tup (u h g)
 unfold trI1 at h;split at h
 ·refine⟨?_,rfl⟩
  split at h
  ·rename_i q;obtain⟨B,r,h⟩:=Zb.mp h
   subst h;simp only[evW] at f;obtain⟨m,G,f⟩:=Za.mp f
   split at f
   ·rename_i z;cases f;obtain⟨s,t⟩:=zdd o q.1
    subst t;exact DIe.range1 s (o.blt _ (by decide +kernel)) (DA.cons (C r G) DA.nil q.2) q.2 z.1 z.2
   ·cases f
  ·split at h
   ·rename_i q;obtain⟨B,r,h⟩:=Zb.mp h
    subst h;simp only[evW] at f;obtain⟨Q,H,f⟩:=Zb.mp f
    subst f;obtain⟨d,g,p⟩:=Za.mp H
    rw[zoj p] at g;obtain⟨s,t⟩:=zdd o q.1
    subst t;cases v<;>first|(cases q.2.2;done)|skip
    exact DIe.enum s (o.blt _ (by decide +kernel)) (DA.cons (u r g) DA.nil q.2.1) q.2.1
   ·split at h
    ·rename_i q;obtain⟨B,r,h⟩:=Zb.mp h
     subst h;simp only[evW] at f;obtain⟨Q,H,f⟩:=Zb.mp f
     subst f;obtain⟨d,g,p⟩:=Za.mp H
     rw[zoj p] at g;obtain⟨s,t⟩:=zdd o q.1
     subst t;exact DIe.rev s (o.blt _ (by decide +kernel)) (DA.cons (u r g) DA.nil q.2) q.2
    ·obtain⟨j,w,h⟩:=Zb.mp h
     subst h;exact F w f
 ·refine⟨?_,rfl⟩
  split at h
  ·rename_i q;obtain⟨B,r,h⟩:=Za.mp h
   obtain⟨R,I,h⟩:=Zb.mp h
   subst h;simp only[evW] at f;obtain⟨m,G,f⟩:=Za.mp f
   obtain⟨V,J,f⟩:=Za.mp f
   split at f
   ·rename_i z;cases f;obtain⟨s,t⟩:=zdd o q.1
    subst t;exact DIe.range2 s (o.blt _ (by decide +kernel)) (DA.cons (C r G) (DA.cons (C I J) DA.nil q.2.2) q.2.1) q.2.1 q.2.2 z
   ·cases f
  ·split at h
   ·rename_i q;obtain⟨B,r,h⟩:=Za.mp h
    obtain⟨R,I,h⟩:=Zb.mp h
    subst h;simp only[evW] at f;obtain⟨l1,K,f⟩:=Za.mp f
    obtain⟨l2,L,f⟩:=Za.mp f
    obtain⟨Y,g,S⟩:=Za.mp K
    obtain⟨Z,p,T⟩:=Za.mp L
    split at f
    ·rename_i z;cases f;obtain⟨s,t⟩:=zdd o q.1
     subst t;cases v<;>first|(cases q.2.2.2;done)|skip
     exact DIe.zg s (o.blt _ (by decide +kernel)) (DA.cons (u r g) (DA.cons (u I p) DA.nil q.2.2.1) q.2.1) S T q.2.1 q.2.2.1 z
    ·cases f
   ·obtain⟨j,w,h⟩:=Zb.mp h
    subst h;exact F w f
 ·obtain⟨i,U,h⟩:=Zb.mp h
  subst h;simp only[evW] at f;obtain⟨d,g,p⟩:=Za.mp f
  obtain⟨M,N,O,P⟩:=zad o U
  refine⟨?_,rfl⟩
  rcases znm p with z|z
  ·subst z;exact DIe.list (DF.var M (Loc.vis N) O P (zeu g))
  ·subst z;exact DIe.tup (DF.var M (Loc.vis N) O P (zeu g))
 ·split at h
  ·rename_i q;obtain⟨j,w,h⟩:=Zb.mp h
   subst h;exact⟨F w f,q⟩
  ·cases h
def ykd{e:Expr}{env:Env}(h:zyg e=false):∀x,foldedSetIterable e env x=pure x:=λx=>by
 cases e<;>first|(cases h;done)|rfl
def blk_xe(d:XE X c Γ){scope:Scope}(e:zva c scope=true){f:Cx}(h:yfn X scope (locs scope++frs' scope) f):XE f (blkC c scope) Γ:=by
 obtain⟨m,C,g,i,ex,rfl⟩:=h
 unfold zva at e;simp only[Zj,decide_eq_true_eq] at e;obtain⟨⟨⟨⟨⟨j,n⟩,o⟩,p⟩,l⟩,q⟩:=e
 refine⟨rfl,?_,l,d.calm,?_,d.calls,d.xf,d.un,d.blt⟩
 ·show relabel scope X.env=relS scope c.sc;rw[<-d.hsc];rfl
 ·show(relabel scope X.env).kind=.function;exact j
def ycy{d:Scope}{x:Str}(h:x∈frs' d):(x,NameKind.free)∈d.names:=by
 unfold frs' at h;obtain⟨y,f,e⟩:=Ub.mp h
 split at e
 ·rename_i k;cases e;rw[<-k];exact f
 ·cases e
theorem zsp{N:List Str}:∀{l:List Str}{fr:List Nat},frIx N l=some fr->fr.length=l.length/\∀(m:Nat) (x:Str),l[m]? = some x->∃j:Nat,fr[m]? = some j/\N[j]? = some x
 |[],fr,h=>by simp only[frIx] at h;cases h;exact⟨rfl,λm x e=>by simp at e⟩
 |y::l,fr,h=>by
  simp only[frIx] at h;obtain⟨i,d,h⟩:=Za.mp h
  obtain⟨r,f,h⟩:=Zb.mp h
  subst h;obtain⟨g,n⟩:=zsp f
  refine⟨by rw[Zq,Zq,g],λm x e=>?_⟩
  cases m with
  |zero=>simp at e;subst e;exact⟨i,by simp,zdu d⟩
  |succ m=>simpa using n m x (by simpa using e)
def ymm(d:XE X c Γ){scope:Scope}{fr:List Nat}(f:zva c scope=true)(h:frIx c.N (frs' scope)=some fr):CompOk X scope (locs scope) (frs' scope) fr:=by
 unfold zva at f;simp only[Zj,decide_eq_true_eq,Us] at f;obtain⟨⟨⟨⟨⟨i,l⟩,n⟩,g⟩,u⟩,v⟩:=f
 obtain⟨o,p⟩:=zsp h
 refine⟨i,l,n,λy q r=>?_,λm x e=>?_,o⟩
 ·show X.env.scope.names.lookup y.1=_;rw[d.hsc];exact(g y q r).1
 ·obtain⟨j,s,t⟩:=p m x e
  have:=g _ (ycy (Yg e)) rfl
  refine⟨this.2,?_,j,s,by rw[d.hN];exact t⟩
  show X.env.scope.names.lookup x=_;rw[d.hsc];exact this.1
def zrt(d:XE X c Γ){x:Str}{i:Nat}(h:ybr c x=some i):X.N[i]? = some x/\X.env.scope.names.lookup x=some .local:=by
 unfold ybr at h;split at h
 ·rename_i k;exact⟨by rw[d.hN];exact zdu h,by rw[d.hsc];exact k⟩
 ·cases h
def zey{f e:Rho}{i:Nat}{d:D}(h:setE f i d=some e):i<f.length/\e=f.set i (some d):=by
 unfold setE at h;by_cases q:i<f.length
 ·rw[if_pos q] at h;cases h;exact⟨q,rfl⟩
 ·rw[if_neg q] at h;cases h
theorem znh(o:XE X c Γ):∀{n:List Expr}{r:List Nat}{f:List D}{s j:Rho},zni c n=some r->zcl r f s=some j->DGse X n f s j/\n.all Bf=true/\f.length=n.length
 |[],r,f,s,j,h,m=>by
  simp only[zni] at h;cases h;cases f with
  |nil=>cases m;exact⟨DGse.nil,rfl,rfl⟩
  |cons d f=>cases m
 |t::n,r,f,s,j,h,m=>by
  unfold zni at h;split at h
  ·rename_i z;cases z
  ·rename_i x p F z;cases z;obtain⟨i,u,h⟩:=Za.mp h
   obtain⟨l,v,h⟩:=Zb.mp h
   subst h;cases f with
   |nil=>cases m
   |cons d f=>
    simp only[zcl] at m;obtain⟨w,A,m⟩:=Za.mp m
    obtain⟨q,e⟩:=zey A
    subst e;obtain⟨g,B,g3⟩:=znh o v m
    obtain⟨C,E⟩:=zrt o u
    exact⟨DGse.cons (DGe.name (by rw[o.hN];exact o.nd) C E q) g rfl,by rw[Wz,B];rfl,by rw[Zq,Zq,g3]⟩
  ·cases h
def ybg(j:XE X c Γ){n:Expr}{t:Tg}(h:ybh c n=some t){d:D}{o m:Rho}(f:zby t d o=some m):DGe X n d o m:=by
 unfold ybh at h;split at h
 ·obtain⟨i,p,h⟩:=Zb.mp h
  subst h;simp only[zby] at f;obtain⟨q,e⟩:=zey f
  subst e;obtain⟨r,s⟩:=zrt j p
  exact DGe.name (by rw[j.hN];exact j.nd) r s q
 ·obtain⟨l,u,h⟩:=Zb.mp h
  subst h;cases d<;>first|(simp only[zby] at f;cases f;done)|skip
  simp only[zby] at f;obtain⟨g,v,g3⟩:=znh j u f
  exact DGe.tup j.calm g v g3
 ·cases h
theorem zfp{o:Nat}{fr:List Nat}{ρ0:Rho}:∀{p:List Nat}{l:List D}{n f:Rho},(p.all λi=>decide (i<o))=true->zcl p l n=some f->(∀(i:Nat) d,(blkR o fr ρ0)[i]? = some (some d)->n[i]? = some (some d))->∀(i:Nat) d,(blkR o fr ρ0)[i]? = some (some d)->f[i]? = some (some d)
 |[],l,n,f,_,g,h=>by
  cases l with
  |nil=>cases g;exact h
  |cons d l=>cases g
 |j::p,l,n,f,r,g,h=>by
  cases l with
  |nil=>cases g
  |cons d l=>
   rw[Wz,Zj] at r;simp only[zcl] at g;obtain⟨s,t,g⟩:=Za.mp g
   obtain⟨q,e⟩:=zey t
   subst e;refine zfp r.2 g λi u e=>?_;obtain⟨m,_,v,_,_⟩:=zdw e
   have:=of_decide_eq_true r.1
   rw[Yi vB];exact h i u e
def zox{h:Nat}{fr:List Nat}{ρ0:Rho}{t:Tg}{d:D}{g:Rho}(l:tgOk h t=true)(f:zby t d (blkR h fr ρ0)=some g):∀(i:Nat) d,(blkR h fr ρ0)[i]? = some (some d)->g[i]? = some (some d):=by
 cases t with
 |name j=>
  simp only[zby] at f;obtain⟨q,e⟩:=zey f
  subst e;intro i n e;obtain⟨m,_,o,_,_⟩:=zdw e
  have:=of_decide_eq_true l
  rw[Yi vB];exact e
 |tup p=>
  cases d<;>first|(simp only[zby] at f;cases f;done)|skip
  simp only[zby] at f;exact zfp l f λi d e=>e
def yao(X:Cx)(p r j:Expr)(l:List Expr)(scope:Scope)(q:Rho)(w:W):Prop:=∃(g m:List D) (f:D->Option (Option D)) (fr:List Nat),w=.new m/\CompOk X scope (locs scope) (frs' scope) fr/\DIe X r j q g/\(∀x,foldedSetIterable j X.env x=pure x)/\g.length<=sizeLine/\zcg f g=some m /\
 ∀(n:Cx),yfn X scope (locs scope++frs' scope) n->∀(d:D) (o:Option D),d∈g->f d=some o->∃h,DGe n r d (blkR (locs scope).length fr q) h/\(∀(i:Nat) d,(blkR (locs scope).length fr q)[i]? = some (some d)->h[i]? = some (some d)) /\
   (match o with|none=>DTs n l h false|some e=>DTs n l h true/\DF n p h e)
def zkx{n:Nat}(D:XE X c Γ)(T:∀{e g i d},trE n c e=some g->(ev Γ g i).map W.d=some d->DF X e i d)(U:∀p v,XE p v Γ->∀e g i w,trE n v e=some g->ev Γ g i=some w->DE p e i w)
 (V:∀p v,XE p v Γ->∀e g i k,trT n v e=some g->((ev Γ g i).map W.d).bind zbt=some k->DT p e i k){A F s:Expr}{q:List Expr}{scope:Scope}{g:E}{i:Rho}{w:W}
 (h:(if zva c scope=true then(trI1 (trE n c) c F s).bind λP=>(ybh (blkC c scope) F).bind λt=>(frIx c.N (frs' scope)).bind λfr=>
   (trE n (blkC c scope) A).bind λe=>(zwb (trT n (blkC c scope)) q).map λk=>E.comp e t P (locs scope).length fr k else none)=some g)(l:ev Γ g i=some w):yao X A F s q scope i w:=by
 split at h
 case isFalse=>cases h
 rename_i Q;obtain⟨P,G,h⟩:=Za.mp h
 obtain⟨t,Y,h⟩:=Za.mp h
 obtain⟨fr,H,h⟩:=Za.mp h
 obtain⟨e1,I,h⟩:=Za.mp h
 obtain⟨k,f,h⟩:=Zb.mp h
 subst h;simp only[ev] at l;obtain⟨items,Z,l⟩:=Za.mp l
 split at l
 case isFalse=>cases l
 rename_i z;obtain⟨a0,B,l⟩:=Zb.mp l
 subst l;obtain⟨d1,d2⟩:=yhu D (λh l=>T h l) G Z
 refine⟨_,_,_,_,rfl,ymm D Q H,d1,ykd d2,z.1,B,λp J d o hd m=>?_⟩
 obtain⟨C,R,m⟩:=Za.mp m
 obtain⟨S,r,m⟩:=Za.mp m
 have u:=blk_xe D Q J;have j:DTs p q C S:=by
  revert f
  cases q with
  |nil=>
   intro f;simp only[zwb] at f;cases f;simp only[evc] at r;cases r;exact .inl ⟨rfl,rfl⟩
  |cons c1 rest=>
   cases rest with
   |nil=>
    intro f;simp only[zwb] at f;obtain⟨c2,K,f⟩:=Zb.mp f
    subst f;simp only[evc] at r;exact .inr ⟨c1,rfl,V p _ u _ _ _ _ K r⟩
   |cons c2 rest=>
    intro f;simp only[zwb] at f;cases f
 refine⟨C,ybg u Y R,zox z.2 R,?_⟩
 cases S with
 |false=>
  rw[if_neg Zr] at m;cases m;exact j
 |true=>
  rw[if_pos rfl] at m;obtain⟨de,L,m⟩:=Zb.mp m
  subst m;obtain⟨w,M,O⟩:=zog L
  subst O;exact⟨j,(U p _ u _ _ _ _ I M).df⟩
def zih:∀n (X:Cx) (c:TC),XE X c Γ->(∀e s r w,trE n c e=some s->ev Γ s r=some w->DE X e r w)/\(∀E l r M,trEs n c E=some l->evs Γ l r=some M->DA X E r M) /\
  (∀o o' r i,trO n c o=some o'->evo Γ o' r=some i->DO X o r i)/\(∀e s r k,trT n c e=some s->((ev Γ s r).map W.d).bind zbt=some k->DT X e r k) /\
  (∀S E p s r k,trT n c (.BoolOp S E p)=some s->((ev Γ s r).map W.d).bind zbt=some k->DW X (.BoolOp S E p) r k):=by
 intro n;induction n with
 |zero=>exact λX c B=>⟨λe s r w h=>by(simp only[trE] at h;cases h),λe s r w h=>by(simp only[trEs] at h;cases h),λe s r w h=>by(simp only[trO] at h;cases h),λe s r w h=>by(simp only[trT] at h;cases h),λS E p s r w h=>by(simp only[trT] at h;cases h)⟩
 |succ n U=>
  intro X c B;obtain⟨V,I,iO,O,iW⟩:=U X c B
  have D:∀{e s r d},trE n c e=some s->(ev Γ s r).map W.d=some d->DF X e r d:=λ{e s r d} h g=>by
   obtain⟨w,L,Y⟩:=zog g
   subst Y;exact(V _ _ _ _ h L).df
  have iB:∀{e s r k},trE n c e=some s->((ev Γ s r).map W.d).bind zbt=some k->DF X e r (.bl k):=λ{e s r k} h g=>by
   obtain⟨d,L,Y⟩:=Za.mp g
   rw[zuz Y] at L;exact D h L
  have iI:∀{e s r k},trE n c e=some s->((ev Γ s r).map W.d).bind dInt=some k->DF X e r (.int k):=λ{e s r k} h g=>by
   obtain⟨d,L,Y⟩:=Za.mp g
   rw[zdn Y] at L;exact D h L
  have a5:∀S E p s r k,trT (n+1) c (.BoolOp S E p)=some s->((ev Γ s r).map W.d).bind zbt=some k->DW X (.BoolOp S E p) r k:=by
   intro S E p s r k h g;simp only[trT] at h;change trB _ p E S=some s at h
   unfold trB at h;split at h
   ·unfold yhw at h;split at h
    ·exact DW.and1 (O _ _ _ _ h g)
    ·obtain⟨J,u,h⟩:=Za.mp h
     obtain⟨P,C,h⟩:=Zb.mp h
     subst h;simp only[ev] at g;obtain⟨d,F,g⟩:=Za.mp g
     obtain⟨w,G,z⟩:=zog F
     subst z;obtain⟨k1,v,m⟩:=Za.mp G
     cases k1 with
     |true=>
      rw[if_pos rfl] at m;exact DW.andT (O _ _ _ _ u v) (iW _ _ _ _ _ _ C (by rw[m];exact g))
     |false=>
      rw[if_neg Zr] at m;cases m;cases g;exact DW.andF (O _ _ _ _ u v) zrw
    ·cases h
   ·unfold trOr at h;split at h
    ·exact DW.or1 (O _ _ _ _ h g)
    ·obtain⟨J,u,h⟩:=Za.mp h
     obtain⟨P,C,h⟩:=Zb.mp h
     subst h;simp only[ev] at g;obtain⟨d,F,g⟩:=Za.mp g
     obtain⟨w,G,z⟩:=zog F
     subst z;obtain⟨k1,v,m⟩:=Za.mp G
     cases k1 with
     |true=>
      rw[if_pos rfl] at m;cases m;cases g;exact DW.orT (O _ _ _ _ u v) zrw
     |false=>
      rw[if_neg Zr] at m;exact DW.orF (O _ _ _ _ u v) (iW _ _ _ _ _ _ C (by rw[m];exact g))
    ·cases h
  refine⟨λe s r w h g=>?_,λE l r M h g=>?_,λo o' r i h g=>?_,λe s r k h g=>?_,a5⟩
  ·simp only[trE] at h;unfold trE1 at h;split at h
   ·-- Name
    obtain⟨i,L,Y⟩:=Zb.mp h
    subst Y;simp only[ev] at g;obtain⟨d,h3,h4⟩:=Zb.mp g
    subst h4;obtain⟨a1,a2,a3,a4⟩:=zad B L
    exact(DF.var a1 (Loc.vis a2) a3 a4 (zeu h3)).de
   ·unfold trK at h;split at h
    ·cases h;simp only[ev] at g;cases g;exact DF.cint.de
    ·cases h;simp only[ev] at g;cases g;exact DF.cbl.de
    ·cases h;simp only[ev] at g;cases g;exact DF.cnon.de
    ·cases h
   ·-- BinOp
    obtain⟨o,ho,h⟩:=Za.mp h
    obtain⟨J,u,h⟩:=Za.mp h
    obtain⟨P,C,h⟩:=Zb.mp h
    subst h;simp only[ev] at g;obtain⟨x,K,g⟩:=Za.mp g
    obtain⟨y,N,g⟩:=Za.mp g
    exact op_ok ho (D u K) (D C N) g
   ·unfold trU at h;split at h
    ·-- USub
     obtain⟨J,u,h⟩:=Zb.mp h
     subst h;simp only[ev] at g;obtain⟨i,Z,g⟩:=Zb.mp g
     subst g;exact DE.neg (iI u Z)
    ·-- Not
     obtain⟨J,u,h⟩:=Zb.mp h
     subst h;simp only[ev] at g;obtain⟨i,Z,g⟩:=Zb.mp g
     subst g;exact DE.not (iB u Z)
    ·cases h
   ·unfold trB at h;split at h
    ·unfold yhw at h;split at h
     ·exact DE.one (V _ _ _ _ h g)
     ·-- And
      obtain⟨J,u,h⟩:=Za.mp h
      obtain⟨P,C,h⟩:=Zb.mp h
      subst h;simp only[ev] at g;obtain⟨k,v,g⟩:=Za.mp g
      cases k with
      |true=>
       rw[if_pos rfl] at g;exact DE.andT (iB u v) (V _ _ _ _ C g)
      |false=>
       rw[if_neg Zr] at g;cases g;exact DE.andF (iB u v)
     ·cases h
    ·unfold trOr at h;split at h
     ·exact DE.one (V _ _ _ _ h g)
     ·-- Or
      obtain⟨J,u,h⟩:=Za.mp h
      obtain⟨P,C,h⟩:=Zb.mp h
      subst h;simp only[ev] at g;obtain⟨k,v,g⟩:=Za.mp g
      cases k with
      |true=>
       rw[if_pos rfl] at g;cases g;exact DE.orT (iB u v)
      |false=>
       rw[if_neg Zr] at g;exact DE.orF (iB u v) (V _ _ _ _ C g)
     ·cases h
   ·unfold trCp at h;split at h
    ·-- Compare
     split at h
     case isFalse=>cases h
     rename_i a0;obtain⟨o,ho,h⟩:=Za.mp h
     obtain⟨J,u,h⟩:=Za.mp h
     obtain⟨P,C,h⟩:=Zb.mp h
     subst h;simp only[ev] at g;obtain⟨x,K,g⟩:=Za.mp g
     obtain⟨y,N,g⟩:=Za.mp g
     obtain⟨k,v,g⟩:=Zb.mp g
     subst g;exact DE.cmp (ygy B.un ho v) (D u K) (D C N) a0
    ·cases h
   ·-- Tuple
    obtain⟨l,H,h⟩:=Zb.mp h
    subst h;simp only[ev] at g;obtain⟨M,m,g⟩:=Za.mp g
    by_cases q:M.length<=sizeLine
    ·rw[if_pos q] at g;cases g;exact DE.tup (I _ _ _ _ H m) q
    ·rw[if_neg q] at g;cases g
   ·-- List
    obtain⟨l,H,h⟩:=Zb.mp h
    subst h;simp only[ev] at g;obtain⟨M,m,g⟩:=Za.mp g
    by_cases q:M.length<=sizeLine
    ·rw[if_pos q] at g;cases g;exact DE.lst (I _ _ _ _ H m) q
    ·rw[if_neg q] at g;cases g
   ·unfold trLC at h;split at h
    ·-- a comprehension
     obtain⟨items,aa,f,fr,e1,hC,hI,hS,hz,hr,C⟩:=zkx B (λh g=>D h g) (λX' c' h=>(U X' c' h).1) (λX' c' h=>(U X' c' h).2.2.2.1) h g
     subst e1;exact DE.comp B.calm hC hI hS hz hr C
    ·cases h
   ·unfold trSb at h;split at h
    ·-- a slice
     obtain⟨J,u,h⟩:=Za.mp h
     obtain⟨l',H,h⟩:=Za.mp h
     obtain⟨h',Q,h⟩:=Zb.mp h
     subst h;simp only[ev] at g;obtain⟨x,K,g⟩:=Za.mp g
     obtain⟨i,Z,g⟩:=Za.mp g
     obtain⟨j,hj,g⟩:=Za.mp g
     cases x<;>first|(cases g;done)|skip
     cases g;exact DE.slL (D u K) (iO _ _ _ _ H Z) (iO _ _ _ _ Q hj)
    ·-- a subscript
     split at h
     ·rename_i hs;obtain⟨J,u,h⟩:=Za.mp h
      obtain⟨P,C,h⟩:=Zb.mp h
      subst h;simp only[ev] at g;obtain⟨x,K,g⟩:=Za.mp g
      obtain⟨y,N,g⟩:=Za.mp g
      obtain⟨d,m,g⟩:=Zb.mp g
      subst g;unfold ixD at m;split at m
      ·exact DE.ixT (D u K) (D C N) hs m
      ·exact DE.ixL (D u K) (D C N) hs m
      ·cases m
     ·cases h
   ·-- c if t else e
    obtain⟨t',ht,h⟩:=Za.mp h
    obtain⟨J,u,h⟩:=Za.mp h
    obtain⟨P,C,h⟩:=Zb.mp h
    subst h;simp only[ev] at g;obtain⟨k,v,g⟩:=Za.mp g
    cases k with
    |true=>rw[if_pos rfl] at g;exact DE.ifT (O _ _ _ _ ht v) (V _ _ _ _ u g)
    |false=>rw[if_neg vA] at g;exact DE.ifF (O _ _ _ _ ht v) (V _ _ _ _ C g)
   ·-- a field
    unfold trFd at h;split at h
    ·rename_i q;obtain⟨j,hj,h⟩:=Za.mp h
     obtain⟨J,u,h⟩:=Zb.mp h
     subst h;simp only[ev] at g;obtain⟨d,m,g⟩:=Zb.mp g
     obtain⟨x,K,m⟩:=Za.mp m
     subst g;cases x<;>first|(cases m;done)|skip
     exact DE.fld (B.xf q.1) (D u K) q.2 (zdu hj) m
    ·cases h
   ·unfold trIx at h;split at h
    ·rename_i q;obtain⟨i,L,h⟩:=Za.mp h
     obtain⟨P,C,h⟩:=Zb.mp h
     subst h;simp only[ev] at g;obtain⟨d,m,g⟩:=Za.mp g
     obtain⟨y,N,g⟩:=Za.mp g
     obtain⟨w1,h3,h4⟩:=zog m
     obtain⟨d1,h5,h6⟩:=Zb.mp h3
     subst h6;subst h4;obtain⟨a1,a2,a3,a4⟩:=zad B L
     obtain⟨q1,q2,q3⟩:=q
     subst q1;cases d1<;>first|(cases g;done)|skip
     obtain⟨k,v,e⟩:=Zb.mp g
     subst e;exact DE.idx B.un (DF.var a1 (Loc.vis a2) a3 a4 (zeu h5)) (D C N) q2 q3 v
    ·cases h
   ·-- a call
    rename_i x p e E pos;split at h
    ·rename_i f as hf;obtain⟨l,H,h⟩:=Zb.mp h
     subst h;simp only[ev] at g;obtain⟨M,m,g⟩:=Za.mp g
     exact fm_ok B hf (zew H) (I _ _ _ _ H m) g
    split at h
    ·rename_i f k Q;split at h
     ·rename_i v;obtain⟨l,H,h⟩:=Zb.mp h
      subst h;simp only[ev] at g;obtain⟨M,m,g⟩:=Za.mp g
      obtain⟨hf,g1,g2⟩:=zyo B Q
      have A:=zew H;rw[Wz,Zj] at A;exact DE.call (B.calls _ _ _ hf) g1 g2 (I _ _ _ _ H m) ((ylr H m).trans v) g A.1 A.2
     ·cases h
    ·rename_i b Q;obtain⟨l,H,h⟩:=Zb.mp h
     subst h;simp only[ev] at g;obtain⟨M,m,g⟩:=Za.mp g
     obtain⟨e1,g1,g2⟩:=zyp B Q
     have A:=zew H;rw[Wz,Zj] at A;subst e1;exact DE.blt (bi_ok B.calm B.un g) g1 (B.blt _ (yad b).2) (ymy b) (yad b).1 g2 (I _ _ _ _ H m) A.1 A.2
    ·rename_i Q;obtain⟨ex,R⟩:=zus B Q
     subst ex;split at h
     ·rename_i y p2;split at h
      ·rename_i a6;obtain⟨g3,g4⟩:=zco B a6.1
       split at h
       ·rename_i t ht;obtain⟨s,T,h⟩:=Zb.mp h
        subst h;simp only[ev] at g;obtain⟨d,m,g⟩:=Za.mp g
        obtain⟨k,v,g⟩:=Zb.mp g
        subst g;have e1:=zvy ht;subst e1;have e2:k=isTy t d:=by
         unfold zuq at v;split at v
         ·cases v
         ·cases v
         ·cases v;rfl
        subst e2;exact DE.isi v (D T m) a6.2 R (B.blt _ (by decide +kernel)) rfl g3 (B.blt _ (yho t))
       ·cases h
      ·cases h
     ·cases h
    ·rename_i Q;obtain⟨ex,R⟩:=zur B Q
     subst ex;split at h
     ·split at h
      ·rename_i A;obtain⟨s,T,h⟩:=Zb.mp h
       subst h;simp only[ev] at g;obtain⟨d,m,g⟩:=Za.mp g
       cases d<;>first|(cases g;done)|skip
       ·cases g;exact DE.ty zzz R (B.blt _ (by decide +kernel)) (by decide +kernel) vA vA (DA.cons (D T m) DA.nil A) A rfl
       ·cases g;exact DE.ty yew R (B.blt _ (by decide +kernel)) (by decide +kernel) vA vA (DA.cons (D T m) DA.nil A) A rfl
      ·cases h
     ·cases h
    ·cases h
   ·cases h
  ·cases E with
   |nil=>
    simp only[trEs] at h;cases h;simp only[evs] at g;cases g;exact DA.nil
   |cons e E=>
    simp only[trEs] at h;by_cases q:Bf e=true
    ·rw[if_pos q] at h;obtain⟨s,T,h⟩:=Za.mp h
     obtain⟨l',h3,z⟩:=Zb.mp h
     subst z;simp only[evs] at g;obtain⟨d,m,g⟩:=Za.mp g
     obtain⟨ab,a7,z⟩:=Zb.mp g
     subst z;exact DA.cons (D T m) (I _ _ _ _ h3 a7) q
    ·rw[if_neg q] at h;cases h
  ·cases o with
   |none=>
    simp only[trO] at h;cases h;simp only[evo] at g;cases g;exact DO.none
   |some e=>
    simp only[trO] at h;obtain⟨s,T,h⟩:=Zb.mp h
    subst h;simp only[evo] at g;obtain⟨i,Z,g⟩:=Zb.mp g
    subst g;exact DO.some (iI T Z)
  ·have h0:=h;simp only[trT] at h;unfold trT1 at h;split at h
   ·unfold trN at h;split at h
    ·obtain⟨J,u,h⟩:=Zb.mp h
     subst h;simp only[ev] at g;obtain⟨d,F,g⟩:=Za.mp g
     obtain⟨w,G,z⟩:=zog F
     subst z;obtain⟨k1,v,m⟩:=Zb.mp G
     subst m;cases g;exact DT.not (O _ _ _ _ u v)
    ·cases h
   ·exact(a5 _ _ _ _ _ _ h0 g).dt
   ·unfold trCp at h;split at h
    ·split at h
     case isFalse=>cases h
     rename_i a0;obtain⟨o,ho,h⟩:=Za.mp h
     obtain⟨J,u,h⟩:=Za.mp h
     obtain⟨P,C,h⟩:=Zb.mp h
     subst h;simp only[ev] at g;obtain⟨d,F,g⟩:=Za.mp g
     obtain⟨w,G,z⟩:=zog F
     subst z;obtain⟨x,K,a8⟩:=Za.mp G
     obtain⟨y,N,a9⟩:=Za.mp a8
     obtain⟨k1,v,m⟩:=Zb.mp a9
     subst m;cases g;exact DT.cmp (ygy B.un ho v) (D u K) (D C N) a0
    ·cases h
   ·split at h
    ·rename_i hp;exact DT.val (iB h g) (znw hp)
    ·cases h
def zgq(f:XE X c Γ)(n:Nat):(∀e g d w,trE n c e=some g->ev Γ g d=some w->DE X e d w)/\(∀h l d j,trEs n c h=some l->evs Γ l d=some j->DA X h d j) /\
  (∀o m d i,trO n c o=some m->evo Γ m d=some i->DO X o d i):=⟨(zih n X c f).1,(zih n X c f).2.1,(zih n X c f).2.2.1⟩
def zrp(h:XE X c Γ)(n:Nat):(∀e f g k,trT n c e=some f->((ev Γ f g).map W.d).bind zbt=some k->DT X e g k) /\
  (∀i j p f g k,trT n c (.BoolOp i j p)=some f->((ev Γ f g).map W.d).bind zbt=some k->DW X (.BoolOp i j p) g k):=⟨(zih n X c h).2.2.2.1,(zih n X c h).2.2.2.2⟩
end
open PySem L2 PyProof.Rows
def zfj:Expr->Bool
 |.ListComp _ _ _ _=>true
 |.SetComp _ _ _ _=>true
 |.DictComp _ _ _ _ _=>true
 |_=>false
def ziv{e t:Expr}{d:Nat}{env:Env}(h:zfj e=false):swapsWith e (some t) d env=pure false:=by
 cases e<;>first|rfl|(cases h;done)
def ycs{e:Expr}{d:List Expr}{k:Nat}{p:Pos}{env:Env}(h:ydo e=false):swappedStores [.Tuple d k p] e env=pure none:=by
 cases e<;>first|(cases h;done)|rfl
def zxr{e a k:Expr}{p:Pos}{env:Env}:swappedStores [.Subscript a k p] e env=pure none:=by
 cases e<;>rfl
def ykc{e t:Expr}{d:Nat}{env:Env}(h:zfj e=false):swapsWithSole [t] e d env=pure false:=by
 unfold swapsWithSole;exact ziv h
def swC(d:Scope)(x:Str)(e pos:Pos)(scope:Scope):Bool:=decide (d.names.lookup x=some NameKind.local) && (e.line == pos.line) && !(scope.names.any λ(n,k)=>n == x && (k == NameKind.local || k == NameKind.cell))
def yfv{x:Str}{g pos:Pos}{e:Expr}{h:List Comprehension}{scope:Scope}{d:Nat}{env:Env}(i:env.scope.kind=.function):swapsWith (.ListComp e h scope pos) (some (.Name x g)) d env=pure (swC env.scope x g pos scope):=by
 have f:env.blockKind=.function:=by unfold Env.blockKind;rw[i];rfl
 have j:(env.kindOf x == some NameKind.local)=decide (env.scope.names.lookup x=some NameKind.local):=by
  unfold Env.kindOf;by_cases q:env.scope.names.lookup x=some NameKind.local
  ·rw[q];rfl
  ·rw[decide_eq_false q];cases z:env.scope.names.lookup x with
   |none=>rfl
   |some k=>cases k<;>first|rfl|(exact absurd z q)
 show pure _=pure _;rw[f];unfold swC;rw[<-j];rfl
def yia{x y:Str}{a b:Expr}{e f n o:Pos}{p g:Nat}{env:Env}(r:env.scope.kind=.function)(j:env.scope.names.lookup x=some .local)(l:env.scope.names.lookup y=some .local)(s:(e.line == f.line)=true)(d:x≠y)
 (t:Bf a=true)(u:Bf b=true)(v:([a,b].all (foldedForSure 8))=false)(w:([a,b].all (constantsAlone 8))=false):
  swappedStores [.Tuple [.Name x e,.Name y f] p n] (.Tuple [a,b] g o) env=pure (some [x,y]):=by
 have i:env.blockKind=.function:=by unfold Env.blockKind;rw[r];rfl
 have B:(env.kindOf x == some NameKind.local)=true:=by unfold Env.kindOf;rw[j];rfl
 have C:(env.kindOf y == some NameKind.local)=true:=by unfold Env.kindOf;rw[l];rfl
 have m:(y == x)=false:=by
  cases q:(y == x) with
  |false=>rfl
  |true=>exact absurd (eq_of_beq q).symm d
 have z:env.kindOf x=some NameKind.local:=j;have g:env.kindOf y=some NameKind.local:=l;have l1:f.line=e.line:=(eq_of_beq s).symm;have A:(Expr.Name x e).pos=e:=rfl;unfold swappedStores;simp only[Zq,Kx,i,v,w];simp[List.eraseDups,List.eraseDupsBy,List.eraseDupsBy.loop,m,d,Wn d]
 rw[if_neg (by
  rintro(h|h)
  ·revert t h;cases a<;>simp[Bf]
  ·revert u h;cases b<;>simp[Bf])]
 simp[K0,z,g,l1,A,List.eraseDups,List.eraseDupsBy,List.eraseDupsBy.loop,m,d,Wn d]
open PySem L2 PyProof.Rows
def slots(c:TC):List Expr->Option (List Nat)
 |[]=>some []
 |.Name x _::d=>(slot c x).bind λi=>(slots c d).map λl=>i::l
 |_=>none
def trTg(c:TC):Expr->Option Tg
 |.Name x _=>(slot c x).map Tg.name
 |.Tuple d _ _=>(slots c d).map Tg.tup
 |_=>none
def zwe(n:Nat)(c:TC)(x:Str):Expr->Option S
 |.ListComp d f scope pos=>if c.sc.kind=.function then(slot c x).bind λi=>(trE n c (.ListComp d f scope pos)).map (S.asg i) else none
 |e=>if zfj e=false then(slot c x).bind λi=>(trE n c e).map (S.asg i) else none
def zwd(n:Nat)(c:TC):List Expr->Expr->Option S
 |[.Name x d,.Name y f],.Tuple [a,b] _ _=>
  if (d.line == f.line)=true/\x≠y/\Bf a=true/\Bf b=true/\([a,b].all (foldedForSure 8))=false/\([a,b].all (constantsAlone 8))=false/\c.sc.names.lookup x=some .local/\c.sc.names.lookup y=some .local then
   (slot c x).bind λi=>(slot c y).bind λj=>(trE n c a).bind λg=>(trE n c b).map λh=>S.par i j g h
  else none
 |ts,e=>if zfj e=false/\ydo e=false then(slots c ts).bind λl=>(trE n c e).map (S.unp l) else none
def yhv(n:Nat)(c:TC)(e:Expr):Expr->Option S
 |.Name x _=>zwe n c x e
 |.Subscript (.Name x _) k _=>if zfj e=false/\zdr k=true then(slot c x).bind λi=>(trE n c k).bind λd=>(trE n c e).map (S.seti i d) else none
 |.Tuple f _ _=>zwd n c f e
 |_=>some .never
def yht(n:Nat)(c:TC):Expr->Option S
 |.Name x _=>(slot c x).map S.retV
 |e=>(trE n c e).map S.ret
def vN:Expr->Option Str
 |.Name x _=>some x
 |_=>none
def vN_s{s:Expr}{x:Str}(h:vN s=some x):∃p,s = .Name x p:=by
 unfold vN at h;split at h
 ·cases h;exact⟨_,rfl⟩
 ·cases h
def vCl:Expr->Option (Expr×List Expr×Pos)
 |.Call f d [] p=>some (f,d,p)
 |_=>none
def vAt:Expr->Option (Expr×Str×Pos)
 |.Attribute a m p=>some (a,m,p)
 |_=>none
def xV(e:Expr):Option (Str×Str×Pos×List Expr×Pos):=(vCl e).bind λp=>(vAt p.1).bind λq=>(vN q.1).map λx=>(x,q.2.1,q.2.2,p.2)
def vCl_s{s:Expr}{e:Expr×List Expr×Pos}(h:vCl s=some e):s = .Call e.1 e.2.1 [] e.2.2:=by
 unfold vCl at h;split at h
 ·cases h;rfl
 ·cases h
def vAt_s{s:Expr}{e:Expr×Str×Pos}(h:vAt s=some e):s = .Attribute e.1 e.2.1 e.2.2:=by
 unfold vAt at h;split at h
 ·cases h;rfl
 ·cases h
def xV_s{e:Expr}{x m:Str}{j n:Pos}{o:List Expr}(h:xV e=some (x,m,j,o,n)):∃p,e = .Call (.Attribute (.Name x p) m j) o [] n:=by
 unfold xV at h;obtain⟨⟨f,l,z⟩,d,h⟩:=Za.mp h
 obtain⟨⟨a,r,q⟩,g,h⟩:=Za.mp h
 obtain⟨y,i,h⟩:=Zb.mp h
 cases h;obtain⟨p,i⟩:=vN_s i
 have d:=vCl_s d;have g:=vAt_s g;dsimp only at d g i;exact⟨p,by rw[d,g,i]⟩
def trX2(n:Nat)(c:TC)(x m:Str)(d f:Pos):List Expr->Option S
 |[e]=>if m=("append" : Str)/\(d.endLine == f.line)=true/\Bf e=true then(slot c x).bind λi=>(trE n c e).map (S.app i) else some .never
 |[]=>if (d.endLine == f.line)=true then(if m=("pop" : Str) then(slot c x).map S.pop else if m=("clear" : Str) then(slot c x).map S.clr else some .never) else some .never
 |_=>some .never
def trX(n:Nat)(c:TC)(e:Expr):Option S:=match xV e with
 |some p=>trX2 n c p.1 p.2.1 p.2.2.1 p.2.2.2.2 p.2.2.2.1
 |none=>some .never
def trS1(n:Nat)(d:List Stmt->Option Ss)(c:TC):Stmt->Option S
 |.Assign [t] e _=>yhv n c e t
 |.Return (some e) _=>yht n c e
 |.If t a b _=>(trT n c t).bind λh=>(d a).bind λl=>(d b).map λf=>S.iff h l f
 |.While t b [] _=>(trT n c t).bind λh=>(d b).map λf=>S.whl h f
 |.For j m b [] _=>(trTg c j).bind λg=>(trI1 (trE n c) c j m).bind λi=>(d b).map λf=>S.frr g i f
 |.Expr e _=>trX n c e
 |_=>some .never
mutual
def trS:Nat->TC->Stmt->Option S
 |0,_,_=>none
 |n+1,c,s=>trS1 n (trSs n c) c s
def trSs:Nat->TC->List Stmt->Option Ss
 |0,_,_=>none
 |n+1,c,[]=>some .nil
 |n+1,c,s::l=>(trS n c s).bind λd=>(trSs n c l).map λe=>.cons d e
end
section
variable{X:Cx}{c:TC}{Γ:Nat->∅}
def zqp(i:XC X c Γ){n:Nat}{e:Expr}{f:E}{g:Rho}{d:D}(h:trE n c e=some f)(j:(ev Γ f g).map W.d=some d):DF X e g d:=by
 obtain⟨w,l,m⟩:=zog j
 subst m;exact((zgq i.toXE n).1 _ _ _ _ h l).df
def ydp(j:XC X c Γ){n:Nat}{e:Expr}{f:E}{g:Rho}{k:Int}(h:trE n c e=some f)(l:((ev Γ f g).map W.d).bind dInt=some k):DF X e g (.int k):=by
 obtain⟨d,i,m⟩:=Za.mp l
 rw[zdn m] at i;exact zqp j h i
def zex{e d:RhoS}{i:Nat}{b:B}(h:setR e i b=some d):i<e.length/\d=e.set i (some b):=by
 unfold setR at h;by_cases q:i<e.length
 ·rw[if_pos q] at h;cases h;exact⟨q,rfl⟩
 ·rw[if_neg q] at h;cases h
theorem zrs(n:XC X c Γ):∀{o:List Expr}{r:List Nat}{f:List D}{s j:RhoS},slots c o=some r->zgg r f s=some j->DGs X o f s j/\o.all Bf=true/\f.length=o.length
 |[],r,f,s,j,h,m=>by
  simp only[slots] at h;cases h;cases f with
  |nil=>cases m;exact⟨DGs.nil,rfl,rfl⟩
  |cons d f=>cases m
 |t::o,r,f,s,j,h,m=>by
  unfold slots at h;split at h
  ·rename_i z;cases z
  ·rename_i x p F z;cases z;obtain⟨i,u,h⟩:=Za.mp h
   obtain⟨l,v,h⟩:=Zb.mp h
   subst h;cases f with
   |nil=>cases m
   |cons d f=>
    simp only[zgg] at m;obtain⟨w,A,m⟩:=Za.mp m
    obtain⟨q,e⟩:=zex A
    subst e;obtain⟨g,B,g3⟩:=zrs n v m
    obtain⟨C,E,G,H⟩:=zad n.toXE u
    refine⟨DGs.cons (DG.name (by rw[n.hN];exact n.nd) C E (.inl (n.fn _)) q) g rfl,by rw[Wz,B];rfl,by rw[Zq,Zq,g3]⟩
  ·cases h
def zvz(f:XC X c Γ){n:Expr}{t:Tg}(h:trTg c n=some t){d:D}{o m:RhoS}(j:Bv t d o=some m):DG X n d o m:=by
 unfold trTg at h;split at h
 ·obtain⟨i,p,h⟩:=Zb.mp h
  subst h;simp only[Bv] at j;obtain⟨q,e⟩:=zex j
  subst e;obtain⟨r,s,w,z⟩:=zad f.toXE p
  exact DG.name (by rw[f.hN];exact f.nd) r s (.inl (f.fn _)) q
 ·obtain⟨l,u,h⟩:=Zb.mp h
  subst h;cases d<;>first|(simp only[Bv] at j;cases j;done)|skip
  ·simp only[Bv] at j;obtain⟨g,v,g3⟩:=zrs f u j
   exact DG.tup f.calm g v g3
 ·cases h
def DI.listV{q:Expr}{i:Nat}{x:Str}{p:Pos}{l:List D}{g:RhoS}(s:X.N[i]? = some x)(t:Vis X.env.scope x)(h:(x == ("__debug__" : Str))=false)(j:(x == ("__classdict__" : Str))=false)(u:g[i]? = some (~~~.lst l)):DI X q (.Name x p) g l g:=λI J=>PI.mono (zqd (zak s t h j)) λK H R ⟨F,S,k⟩=>by
 obtain⟨v,w,z⟩:=S.env i _ u
 obtain⟨a,e,A,f,r⟩:=z.lst
 refine⟨v,w,a,A,⟨e,S.sub.seq f⟩,k _ H F (Same.refl _) S λi L m=>⟨λd h=>?_,λn=>⟨e,m.seq f,by rw[r.length];exact n⟩⟩⟩
 obtain⟨y,o,B⟩:=r.get h
 refine⟨⟨e,y,m.seq f,o⟩,λx C ⟨E,G⟩=>?_⟩
 have:=G e (m.seq f)
 rw[o] at this;cases this;exact .inl ⟨E,B⟩
def DI.tupV{q:Expr}{i:Nat}{x:Str}{p:Pos}{l:List D}{g:RhoS}(s:X.N[i]? = some x)(t:Vis X.env.scope x)(h:(x == ("__debug__" : Str))=false)(j:(x == ("__classdict__" : Str))=false)(u:g[i]? = some (~~~.tup l)):DI X q (.Name x p) g l g:=λI J=>PI.mono (zxg (zak s t h j)) λK H R ⟨F,S,k⟩=>by
 obtain⟨v,w,z⟩:=S.env i _ u
 obtain⟨a,e,A,f,r⟩:=z.tup
 refine⟨v,w,a,A,⟨e,Same.tup S.sub f⟩,k _ H F (Same.refl _) S λi L m=>⟨λd h=>?_,λn=>⟨e,Same.tup m f,by rw[r.length];exact n⟩⟩⟩
 obtain⟨y,o,B⟩:=r.get h
 refine⟨⟨e,y,Same.tup m f,o⟩,λx C ⟨E,G⟩=>?_⟩
 have:=G e (Same.tup m f)
 rw[o] at this;cases this;exact .inl ⟨E,B⟩
def zwn(i:XC X c Γ){n:Nat}{p e:Expr}{j:E}{m f:RhoS}{l:List D}(h:trE n c e=some j)(d:evI Γ (.seq j) m=some (l,f)):DI X p e m l f:=by
 simp only[evI] at d;obtain⟨w,o,d⟩:=Za.mp d
 split at d
 ·rename_i q g;cases d;exact DI.list ((zgq i.toXE n).1 _ _ _ _ h o) g
 ·rename_i q g;cases d;exact DI.tup ((zgq i.toXE n).1 _ _ _ _ h o) g
 ·cases d
def yft(f:XC X c Γ){n:Nat}{t e:Expr}{i:It'}{v p:RhoS}{l:List D}(h:trI1 (trE n c) c t e=some i)(d:evI Γ i v=some (l,p)):DI X t e v l p/\zyg e=false:=by
 unfold trI1 at h;split at h
 ·refine⟨?_,rfl⟩
  split at h
  ·rename_i q;obtain⟨u,g,h⟩:=Zb.mp h
   subst h;simp only[evI] at d;obtain⟨m,A,d⟩:=Za.mp d
   split at d
   ·rename_i z;cases d;obtain⟨j,o⟩:=zdd f.toXE q.1
    subst o;exact DI.range1 j (f.blt _ (by decide +kernel)) (DA.cons (ydp f g A) DA.nil q.2) q.2 z.1 z.2
   ·cases d
  ·split at h
   ·rename_i q;obtain⟨u,g,h⟩:=Zb.mp h
    subst h;simp only[evI] at d;obtain⟨w,L,d⟩:=Za.mp d
    split at d
    ·rename_i M N;cases d;obtain⟨j,o⟩:=zdd f.toXE q.1
     subst o;have O:DF X _ (view v) (.lst M):=zqp f g (by rw[L];exact congrArg some N);cases t<;>first|(cases q.2.2;done)|skip
     exact DI.enum j (f.blt _ (by decide +kernel)) (DA.cons O DA.nil q.2.1) q.2.1
    ·cases d
   ·split at h
    ·obtain⟨u,g,h⟩:=Zb.mp h
     subst h;simp only[evI] at d;cases d
    ·obtain⟨K,r,h⟩:=Zb.mp h
     subst h;exact zwn f r d
 ·refine⟨?_,rfl⟩
  split at h
  ·rename_i q;obtain⟨u,g,h⟩:=Za.mp h
   obtain⟨P,B,h⟩:=Zb.mp h
   subst h;simp only[evI] at d;obtain⟨m,A,d⟩:=Za.mp d
   obtain⟨V,C,d⟩:=Za.mp d
   split at d
   ·rename_i z;cases d;obtain⟨j,o⟩:=zdd f.toXE q.1
    subst o;exact DI.range2 j (f.blt _ (by decide +kernel)) (DA.cons (ydp f g A) (DA.cons (ydp f B C) DA.nil q.2.2) q.2.1) q.2.1 q.2.2 z
   ·cases d
  ·split at h
   ·rename_i q;obtain⟨u,g,h⟩:=Za.mp h
    obtain⟨P,B,h⟩:=Zb.mp h
    subst h;simp only[evI] at d;obtain⟨l1,E,d⟩:=Za.mp d
    obtain⟨l2,F,d⟩:=Za.mp d
    obtain⟨W,Q,R⟩:=Za.mp E
    obtain⟨Y,S,T⟩:=Za.mp F
    split at d
    ·rename_i z;cases d;obtain⟨j,o⟩:=zdd f.toXE q.1
     subst o;cases t<;>first|(cases q.2.2.2;done)|skip
     exact DI.zg j (f.blt _ (by decide +kernel)) (DA.cons (zqp f g Q) (DA.cons (zqp f B S) DA.nil q.2.2.1) q.2.1) R T q.2.1 q.2.2.1 z
    ·cases d
   ·obtain⟨K,r,h⟩:=Zb.mp h
    subst h;exact zwn f r d
 ·obtain⟨i,U,h⟩:=Zb.mp h
  subst h;simp only[evI] at d;obtain⟨G,H,I,J⟩:=zad f.toXE U
  refine⟨?_,rfl⟩
  unfold seqB at d;split at d
  ·rename_i s;cases d;exact DI.listV G (Loc.vis H) I J s
  ·rename_i s;cases d;exact DI.tupV G (Loc.vis H) I J s
  ·rename_i s;cases d;exact DI.list (w:=.val (.lst l)) (DF.de (DF.var G (Loc.vis H) I J (by unfold view;rw[Zi,s];rfl))) rfl
  ·cases d
 ·split at h
  ·rename_i q;obtain⟨K,r,h⟩:=Zb.mp h
   subst h;exact⟨zwn f r d,q⟩
  ·cases h
def zhr{s:Stmt}{d:S}{e:RhoS}{o:Out}(h:some S.never=some d)(f:ex Γ d e=some o):DS X s e o:=by
 cases h;simp only[ex] at f;cases f
def ynm(d:XC X c Γ){n:Nat}{x:Str}{F p:Pos}{e:Expr}{G:S}{l:RhoS}{o:Out}(h:zwe n c x e=some G)(g:ex Γ G l=some o):DS X (.Assign [.Name x F] e p) l o:=by
 unfold zwe at h;split at h
 ·rename_i H I m pos;split at h
  case isFalse=>cases h
  rename_i J;obtain⟨i,A,h⟩:=Za.mp h
  obtain⟨K,j,h⟩:=Zb.mp h
  subst h;simp only[ex] at g;obtain⟨w,t,g⟩:=Za.mp g
  obtain⟨B,C,g⟩:=Zb.mp g
  subst g;obtain⟨q,r⟩:=zex C
  subst r;obtain⟨u,v,L,M⟩:=zad d.toXE A
  have z:i<l.length:=by
   have:(after w l).length=l.length:=by unfold after;split;rfl;unfold frz;rw[Zd]
   rw[this] at q;exact q
  cases s:swC X.env.scope x F pos m with
  |false=>exact DS.asg (by rw[d.hN];exact d.nd) u v (.inl (d.fn _)) (by rw[yfv d.kind,s]) z ((zgq d.toXE n).1 _ _ _ _ j t)
  |true=>
   cases n with
   |zero=>simp only[trE] at j;cases j
   |succ n=>
    simp only[trE] at j;change trLC _ _ _ _ _ _ I=_ at j
    unfold trLC at j;split at j
    ·obtain⟨items,N,f,fr,r,O,P,hS,Q,R,T⟩:=zkx d.toXE (λh g=>zqp d h g) (λD E h=>(zih n D E h).1) (λD E h=>(zih n D E h).2.2.2.1) j t
     subst r;exact DS.asgComp (by rw[d.hN];exact d.nd) u v (.inl (d.fn _)) z (by rw[yfv d.kind,s]) d.calm O P hS Q R T
    ·cases j
 ·split at h
  ·rename_i U;obtain⟨i,A,h⟩:=Za.mp h
   obtain⟨K,j,h⟩:=Zb.mp h
   subst h;simp only[ex] at g;obtain⟨w,t,g⟩:=Za.mp g
   obtain⟨B,C,g⟩:=Zb.mp g
   subst g;obtain⟨q,r⟩:=zex C
   subst r;obtain⟨u,v,L,M⟩:=zad d.toXE A
   have z:i<l.length:=by
    have:(after w l).length=l.length:=by unfold after;split;rfl;unfold frz;rw[Zd]
    rw[this] at q;exact q
   exact DS.asg (by rw[d.hN];exact d.nd) u v (.inl (d.fn _)) (ziv U) z ((zgq d.toXE n).1 _ _ _ _ j t)
  ·cases h
def ynl(f:XC X c Γ){n:Nat}{r:List Expr}{k:Nat}{tp g:Pos}{e:Expr}{s:S}{t:RhoS}{o:Out}(h:zwd n c r e=some s)(d:ex Γ s t=some o):DS X (.Assign [.Tuple r k tp] e g) t o:=by
 unfold zwd at h;split at h
 ·split at h
  ·rename_i q;obtain⟨A,B,u,v,C,D,E,F⟩:=q
   obtain⟨i,l,h⟩:=Za.mp h
   obtain⟨j,G,h⟩:=Za.mp h
   obtain⟨R,H,h⟩:=Za.mp h
   obtain⟨T,I,h⟩:=Zb.mp h
   subst h;simp only[ex] at d;obtain⟨x,J,d⟩:=Za.mp d
   obtain⟨y,K,d⟩:=Za.mp d
   split at d
   ·rename_i z;cases d;obtain⟨L,U,V,W⟩:=zad f.toXE l
    obtain⟨M,Y,Z,b4⟩:=zad f.toXE G
    have m:=E;have p:=F;rw[<-f.hsc] at m p;exact DS.par f.calm (by rw[f.hN];exact f.nd) L M z.2.2.1 m p (DA.cons (zqp f H J) (DA.cons (zqp f I K) DA.nil v) u) z.2.2.2.1 z.2.2.2.2 z.1 z.2.1 (yia f.kind m p A B u v C D)
   ·cases d
  ·cases h
 ·split at h
  ·rename_i q;obtain⟨is,l,h⟩:=Za.mp h
   obtain⟨e',N,h⟩:=Zb.mp h
   subst h;simp only[ex] at d;obtain⟨w,O,d⟩:=Za.mp d
   obtain⟨P,Q,d⟩:=Zb.mp d
   subst d;exact DS.asgT ((zgq f.toXE n).1 _ _ _ _ N O) (zvz f (by show(slots c _).map Tg.tup=_;rw[l];rfl) Q) (by unfold swapsWithSole;exact ziv q.1) (ycs q.2) rfl
  ·cases h
def asg_ok(g:XC X c Γ){n:Nat}{t:Expr}{p:Pos}{e:Expr}{q:S}{r:RhoS}{o:Out}(h:yhv n c e t=some q)(f:ex Γ q r=some o):DS X (.Assign [t] e p) r o:=by
 unfold yhv at h;split at h
 ·exact ynm g h f
 ·split at h
  ·rename_i s;obtain⟨i,u,h⟩:=Za.mp h
   obtain⟨J,v,h⟩:=Za.mp h
   obtain⟨K,z,h⟩:=Zb.mp h
   subst h;simp only[ex] at f;obtain⟨w,A,f⟩:=Za.mp f
   obtain⟨j,B,f⟩:=Za.mp f
   obtain⟨C,D,E,F⟩:=zad g.toXE u
   split at f
   ·rename_i l d G _;split at f
    ·rename_i H;obtain⟨m,I,f⟩:=Zb.mp f
     subst f;exact DS.seti C (Loc.vis D) E F G ((zgq g.toXE n).1 _ _ _ _ z A) (ydp g v B) H I s.2 (ykc s.1) zxr
    ·cases f
   ·cases f
  ·cases h
 ·exact ynl g h f
 ·exact zhr h f
def ret_ok(j:XC X c Γ){n:Nat}{g:Pos}{e:Expr}{m:S}{p:RhoS}{o:Out}(h:yht n c e=some m)(f:ex Γ m p=some o):DS X (.Return (some e) g) p o:=by
 unfold yht at h;split at h
 ·obtain⟨i,u,h⟩:=Zb.mp h
  subst h;simp only[ex] at f;obtain⟨q,r,s,t⟩:=zad j.toXE u
  split at f
  ·rename_i l e;cases f;exact DS.retOwn q (Loc.vis r) s t e
  ·rename_i d e;cases f;refine DS.ret (DF.var q (Loc.vis r) s t ?_).de;unfold view;rw[Zi,e];rfl
  ·cases f
 ·obtain⟨A,v,h⟩:=Zb.mp h
  subst h;simp only[ex] at f;obtain⟨w,z,f⟩:=Zb.mp f
  subst f;exact DS.ret ((zgq j.toXE n).1 _ _ _ _ v z)
def x_ok(v:XC X c Γ){n:Nat}{g:Pos}{e:Expr}{A:S}{B:RhoS}{o:Out}(h:trX n c e=some A)(f:ex Γ A B=some o):DS X (.Expr e g) B o:=by
 unfold trX at h;split at h
 case h_2=>exact zhr h f
 rename_i p E;obtain⟨x,m,M,N,O⟩:=p
 obtain⟨P,rfl⟩:=xV_s E
 dsimp only at h;unfold trX2 at h;split at h
 ·split at h
  ·rename_i F;obtain⟨i,j,h⟩:=Za.mp h
   obtain⟨Q,G,h⟩:=Zb.mp h
   subst h;simp only[ex] at f;obtain⟨w,H,f⟩:=Za.mp f
   obtain⟨q,r,s,t⟩:=zad v.toXE j
   split at f
   ·rename_i l d u;split at f
    ·rename_i C;cases f;obtain⟨I,J,K⟩:=F
     subst I;exact DS.app q (Loc.vis r) s t u ((zgq v.toXE n).1 _ _ _ _ G H) K C.1 C.2 J
    ·cases f
   ·cases f
  ·cases h;simp only[ex] at f;cases f
 ·split at h
  ·rename_i D;split at h
   ·rename_i z;obtain⟨i,j,h⟩:=Zb.mp h
    subst h;subst z;obtain⟨q,r,s,t⟩:=zad v.toXE j
    simp only[ex] at f;split at f
    ·rename_i l u;split at f
     ·cases f
     ·rename_i L;cases f;exact DS.pop q (Loc.vis r) s t u L D
    ·cases f
   ·split at h
    ·rename_i z;obtain⟨i,j,h⟩:=Zb.mp h
     subst h;subst z;obtain⟨q,r,s,t⟩:=zad v.toXE j
     simp only[ex] at f;split at f
     ·rename_i l u;cases f;exact DS.clr q (Loc.vis r) s t u D
     ·cases f
    ·cases h;simp only[ex] at f;cases f
  ·cases h;simp only[ex] at f;cases f
 ·exact zhr h f
def zwa(p:XC X c Γ):∀n,(∀s t j o,trS n c s=some t->ex Γ t j=some o->DS X s j o)/\(∀l z j o,trSs n c l=some z->exs Γ z j=some o->DSs X l j o):=by
 intro n;induction n with
 |zero=>exact⟨λe H j w h=>by(simp only[trS] at h;cases h),λe H j w h=>by(simp only[trSs] at h;cases h)⟩
 |succ n I=>
  obtain⟨D,q⟩:=I
  refine⟨λs t j o h f=>?_,λl z j o h f=>?_⟩
  ·simp only[trS] at h;unfold trS1 at h;split at h
   ·exact asg_ok p h f
   ·exact ret_ok p h f
   ·-- if
    obtain⟨J,u,h⟩:=Za.mp h
    obtain⟨S,K,h⟩:=Za.mp h
    obtain⟨E,r,h⟩:=Zb.mp h
    subst h;simp only[ex] at f;obtain⟨k,v,f⟩:=Za.mp f
    cases k with
    |true=>
     rw[if_pos rfl] at f;exact DS.ifT ((zrp p.toXE n).1 _ _ _ _ u v) (q _ _ _ _ K f)
    |false=>
     rw[if_neg Zr] at f;exact DS.ifF ((zrp p.toXE n).1 _ _ _ _ u v) (q _ _ _ _ r f)
   ·-- while
    obtain⟨J,u,h⟩:=Za.mp h
    obtain⟨E,r,h⟩:=Zb.mp h
    subst h;simp only[ex] at f;obtain⟨m,L⟩:=zkm f
    exact DS.while_ p.po (λj k v=>(zrp p.toXE n).1 _ _ _ _ u v) (λj o A=>q _ _ _ _ r A) L
   ·-- for
    obtain⟨g,M,h⟩:=Za.mp h
    obtain⟨i,N,h⟩:=Za.mp h
    obtain⟨E,r,h⟩:=Zb.mp h
    subst h;simp only[ex] at f;obtain⟨⟨l,B⟩,C,f⟩:=Za.mp f
    obtain⟨O,P⟩:=yft p N C
    exact DS.for_ p.po p.calm O (λd j Q R=>zvz p M R) (λj o A=>q _ _ _ _ r A) f (ykd P)
   ·exact x_ok p h f
   ·exact zhr h f
  ·cases l with
   |nil=>
    simp only[trSs] at h;cases h;simp only[exs] at f;cases f;exact DSs.nil
   |cons s l=>
    simp only[trSs] at h;obtain⟨t,F,h⟩:=Za.mp h
    obtain⟨l2,C,h⟩:=Zb.mp h
    subst h;simp only[exs] at f;obtain⟨o1,G,f⟩:=Za.mp f
    cases o1 with
    |nx B=>exact DSs.next (D _ _ _ _ F G) (q _ _ _ _ C f)
    |rt w=>cases f;exact DSs.ret (D _ _ _ _ F G)
end
open PySem L2 PyProof.Rows
def GFn(P:Program)(w:World)(K:vE)(e:Str->Option Value)(d:Heap)(k:Nat)(x:Str)(n:Nat)(g:∅):Prop:=
 ∃(a:Addr) (f:FuncData) (ps:List Str),FnOk P w K e d CX0 k a f ps (spD K n g)/\e x=some (.ref a)/\PySem.W.keepIn K (.ref a)=true/\Binds K f ps []
def GFr(P:Program)(w:World)(K:vE)(e:Str->Option Value)(d:Heap)(k:Nat)(x:Str)(n:Nat)(g:∅):Prop:=
 ∃(a:Addr) (f:FuncData) (ps:List Str),FnOk P w K e d (CX1 P w) k a f ps (spR K n g)/\e x=some (.ref a)/\PySem.W.keepIn K (.ref a)=true/\Binds K f ps []
section
variable{P:Program}{w:World}{K:vE}{mg:Str->Option Value}{base:Heap}
theorem GFn.mono{j k:Nat}{x:Str}{n:Nat}{d:∅}(G:GFn P w K mg base j x n d)(h:j<=k):GFn P w K mg base k x n d:=by
 obtain⟨a,e,ps,F,r⟩:=G
 exact⟨a,e,ps,F.mono h,r⟩
theorem GFn.imp{k:Nat}{x:Str}{n:Nat}{e f:∅}(G:GFn P w K mg base k x n e)(h:∀d w,d.length=n->f d=some w->e d=some w):GFn P w K mg base k x n f:=by
 obtain⟨a,i,ps,F,r⟩:=G
 refine⟨a,i,ps,F.imp λq H Q E ⟨j,d,w,l,m,g,o,p⟩=>⟨j,d,w,l,m,g,h d w g o,p⟩,r⟩
def zwi{N:List Str}{d:List V}{i:Nat}{v:V}(h:d[i]? = some v):(L2.start N d)[i]? = some (some v):=by
 unfold L2.start;have e:i<d.length:=(Zo.mp h).1;rw[Yt (by rw[Zd];exact e),Zi,h];rfl
def zrr{F:Hp}{H:Hp}{f:List D}{h:List V}{N:List Str}(s:Same F H)(n:DenL K F f h):SR K H F F H (L2.start N h) (f.map (λd=>~~~d)++List.replicate (N.length-f.length) none):=by
 have t:h.length=f.length:=n.length;refine⟨s,Same.refl _,Same.refl _,λa o e=>.inl e,λi d e=>?_,λi l e=>?_,λi j l m a e=>?_,?_⟩
 ·by_cases g:i<f.length
  ·rw[Yt (by rw[Zd];exact g),Zi] at e;cases q:f[i]? with
   |none=>rw[q] at e;cases e
   |some p=>
    rw[q] at e;cases e;obtain⟨v,u,r⟩:=n.get q
    exact⟨v,zwi u,r⟩
  ·rw[Yb (by rw[Zd];omega)] at e;rw[Y9] at e;split at e<;>cases e
 ·by_cases g:i<f.length
  ·rw[Yt (by rw[Zd];exact g),Zi] at e;cases q:f[i]? with
   |none=>rw[q] at e;cases e
   |some p=>rw[q] at e;cases e
  ·rw[Yb (by rw[Zd];omega)] at e;rw[Y9] at e;split at e<;>cases e
 ·by_cases g:i<f.length
  ·rw[Yt (by rw[Zd];exact g),Zi] at e;cases q:f[i]? with
   |none=>rw[q] at e;cases e
   |some p=>rw[q] at e;cases e
  ·rw[Yb (by rw[Zd];omega)] at e;rw[Y9] at e;split at e<;>cases e
 ·unfold L2.start;rw[Z7,Z7,Zd,Zd,Yy,Yy,t]
structure Deps(P:Program)(w:World)(K:vE)(mg:Str->Option Value)(base:Heap)(k:Nat)(Γ:Nat->∅)(fns rzs:List (Str×Nat×Nat))(xs:Bool):Prop where
 fns:∀x f n,fns.lookup x=some (f,n)->GFn P w K mg base k x n (Γ f)
 rzs:∀x f n,rzs.lookup x=some (f,n)->GFr P w K mg base k x n (Γ f)
 xf:xs=true->BFacts K
 blt:∀x∈zck,mg x=none
def zvl{CX:CXT}{d:Str}{l:Scope}{f:Addr}{N e:List Str}{k:Nat}{g i:List (Str×Nat×Nat)}{t:Bool}{Γ:Nat->∅}{j:Value}{A:Around}{outer:List Env}{s:Shared}{H:Hp}{E:XK}(S:FnScope N e l)(m:Deps P w K mg base k Γ g i t)
 (o:Room k (A.deeper (envOfC d l s.heap.objs.size f j))):XC (cxOf CX P w K mg base N d l f j A outer s H E).nox ⟨N,l,g,i,t⟩ Γ:=by
 refine⟨⟨rfl,rfl,S.nd,rfl,S.kind,λx f n h=>?_,m.xf,o.units,m.blt⟩,λ_=>rfl,PassesOwn.never,λx f n h=>?_,rfl,rfl,rfl⟩
 ·obtain⟨a,p,e,G,q,r,g3⟩:=m.fns x f n h
  exact⟨k,a,p,e,G,o,q,r,g3⟩
 ·obtain⟨a,p,e,G,q,r,g3⟩:=m.rzs x f n h
  exact⟨k,a,p,e,G,o,q,r,g3⟩
def zsr{x h:Str}{l:Stmt}{f:Addr}{I:FuncData}{N p:List Str}{k m:Nat}{i j:List (Str×Nat×Nat)}{J:Bool}{Γ:Nat->∅}{d:Ss}(F:Fun K x h l f I)(S:FnScope N p (Bd l))
 (t:trSs m ⟨N,Bd l,i,j,J⟩ (Bg l)=some d)(O:Deps P w K mg base k Γ i j J):
  FnOk P w K mg base CX0 (k+1) f I p (spD K p.length (run Γ d N.length)):=by
 refine F.ok S (λR H Q E ⟨u,T,w,L,z,M,g,B⟩=>by rw[z.length];exact M) (λU A outer s H R Q E V ⟨u,T,wv,L,z,M,g,B⟩=>?_);have X:=zvl (CX:=CX0) (E:=E) (outer:=outer) (H:=H) S O V;unfold run at g;obtain⟨o,Y,g⟩:=Za.mp g
 have hS:=(zwa X m).2 _ _ _ _ t Y;refine⟨_,hS H u,u,zrr L z,?_⟩
 cases o with
 |rt w'=>
  cases g;exact λv C G r q=>B v C G r.same r.base r.sub (λa o e=>r.new a o e) q
 |nx Z=>
  cases g;exact λa0 C G s' n=>B _ C G n.same n.base n.sub (λa o e=>n.new a o e) (RW.v Den.non_mk)
def gfn_of{x e:Str}{i:Stmt}{f:Addr}{l:FuncData}{N j:List Str}{k m n:Nat}{g h:List (Str×Nat×Nat)}{r:Bool}{Γ:Nat->∅}{d:Ss}{s:∅}(F:Fun K x e i f l)(S:FnScope N j (Bd i))(t:Binds K l j [])
 (u:mg x=some (.ref f))(o:trSs m ⟨N,Bd i,g,h,r⟩ (Bg i)=some d)(v:j.length=n)(z:Deps P w K mg base k Γ g h r)
 (p:∀q w,q.length=n->s q=some w->run Γ d N.length q=some w):GFn P w K mg base (k+1) x n s:=by
 subst v;exact GFn.imp ⟨f,l,j,zsr F S o z,u,F.kp,t⟩ p
end
open PySem L2 PyProof.Rows
def At(K:vE)(x:Str)(e:Stmt):Prop:=∃(f:Addr) (i:Value) (j:Option Addr) (kV g l:Value) (m:Option Addr) (d n:Value) (h:Array (Option Value)),
 PySem.W.nsIn K mainGlobals x=some (some (.ref f))/\K.lookup f=some ⟨i,j,.func (PySem.W.fnOf x x (zbg e) (Bg e) (Bd e) .none kV g l m d n),h⟩/\PySem.W.codeIn K d x=true/\PySem.W.keepIn K (.ref f)=true
def at_mk{K:vE}{x:Str}{h:Stmt}{f:Addr}{i:Value}{j:Option Addr}{kV e m:Value}{n:Option Addr}{d ct:Value}{g:Array (Option Value)}(a:PySem.W.nsIn K mainGlobals x=some (some (.ref f)))
 (l:K.lookup f=some ⟨i,j,.func (PySem.W.fnOf x x (zbg h) (Bg h) (Bd h) .none kV e m n d ct),g⟩)(c:PySem.W.codeIn K d x=true)(k:PySem.W.keepIn K (.ref f)=true):At K x h:=⟨f,i,j,kV,e,m,n,d,ct,g,a,l,c,k⟩
def Bnd(x:Str)(d:Stmt)(h:List Str):Prop:=∀(kV e i:Value) (j:Option Addr) (f l:Value) (g:List Value),g.length=h.length->bindArgs (PySem.W.fnOf x x (zbg d) (Bg d) (Bd d) .none kV e i j f l) ⟨g,[]⟩=pure (h.zip g)
def Calls(P:Program)(w:World)(K:vE)(g:Str->Option Value)(d:Heap)(k:Nat)(Γ:Nat->∅)(e:List (Str×Nat×Nat)):Prop:=∀x f n,e.lookup x=some (f,n)->GFn P w K g d k x n (Γ f)
def CallsR(P:Program)(w:World)(K:vE)(g:Str->Option Value)(d:Heap)(k:Nat)(Γ:Nat->∅)(e:List (Str×Nat×Nat)):Prop:=∀x f n,e.lookup x=some (f,n)->GFr P w K g d k x n (Γ f)
section
variable{P:Program}{w:World}{K:vE}{mg:Str->Option Value}{base:Heap}{Γ:Nat->∅}
def Calls.nil{k:Nat}:Calls P w K mg base k Γ []:=λx f n h=>by cases h
def Calls.cons{j k f n:Nat}{x:Str}{l:List (Str×Nat×Nat)}(h:GFn P w K mg base j x n (Γ f))(d:j<=k)(r:Calls P w K mg base k Γ l):Calls P w K mg base k Γ ((x,f,n)::l):=λy g m e=>by
 rw[Ql] at e;cases q:(y == x) with
 |true=>
  rw[q] at e;cases e;have:=eq_of_beq q
  subst this;exact h.mono d
 |false=>rw[q] at e;exact r y g m e
def CallsR.nil{k:Nat}:CallsR P w K mg base k Γ []:=λx f n h=>by cases h
def Bu{h:Heap}{x:Str}{e:Stmt}{N j:List Str}{k m n:Nat}{g i:List (Str×Nat×Nat)}{r:Bool}{d:Ss}{s:∅}(A:At K x e)(X:K.In h)(G:h.Ns mainGlobals mg)(S:FnScope N j (Bd e))(B:Bnd x e j)
 (o:trSs m ⟨N,Bd e,g,i,r⟩ (Bg e)=some d)(t:j.length=n)(u:Deps P w K mg base k Γ g i r)
 (p:∀q w,q.length=n->s q=some w->run Γ d N.length q=some w):GFn P w K mg base (k+1) x n s:=by
 obtain⟨f,H,I,kV,v,J,L,z,M,C,a,l,c,E⟩:=A
 have F:=zso (st:=e) l c E;exact gfn_of F S (F.binds B) (Jy X G a) o t u p
def law_at{h:Heap}{x p:Str}{g:Stmt}{N:List Str}{k m:Nat}{t:Addr}{i j:List (Str×Nat×Nat)}{u:Bool}{d:Ss}(A:At K x g)(X:K.In h)(G:h.Ns mainGlobals mg)(n:mg x=some (.ref t))(S:FnScope N [p] (Bd g))(B:Bnd x g [p])
 (o:trSs m ⟨N,Bd g,i,j,u⟩ (Bg g)=some d)(C:∀base:Heap,K.In base->base.Ns mainGlobals mg->Deps P w K mg base k Γ i j u):
  ∃z:FuncData,(∀(s:Shared) (v:Value),BindsTo s z ⟨[v],[]⟩ [(p,v)])/\∀base:Heap,K.In base->base.Ns mainGlobals mg->FnOk P w K mg base CX0 (k+1) t z [p] (spD K 1 (run Γ d N.length)):=by
 obtain⟨f,O,Q,kV,q,D,E,r,H,I,a,l,c,J⟩:=A
 have e:=n.symm.trans (Jy X G a);cases e;have F:=zso (st:=g) l c J;exact⟨_,λs v=>.of_eq (B kV q D E r H [v] rfl),λbase L M=>zsr F S o (C base L M)⟩
def ydj{n:Nat}{f:∅}(e:∀d:List Int,d.length<=n->f [.lst (d.map D.int)]=some (.val (.bl true)))(H:Hp)(a:Addr)(d:List Int)(g:d.length<=n)(hS:SqL K H a (d.map V.int)):
  spD K 1 f [.ref a] H (λv _=>v=.bl true) λ_ _ _=>False:=
 ⟨H,[.lst (d.map D.int)],.val (.bl true),Same.refl _,DenL.cons (Den.lst_mk hS (DenL.ints d)) DenL.nil,rfl,e d g,λv i h _ _ _ _ q=>(show Den K h (.bl true) v from q).bl⟩
def yet{h:Heap}(X:K.In h)(G:h.Ns mainGlobals mg)(d:∀x∈zck,PySem.W.nsIn K mainGlobals x=some none):∀x∈zck,mg x=none:=λx e=>PySem.W.mg_none_of X G (d x e)
end
end DL
namespace DL
def bin2(f:D->D->Option W):Option D->Option D->Option W
 |some x,some y=>f x y
 |_,_=>none
def un1(f:D->Option W):Option D->Option W
 |some x=>f x
 |_=>none
def andO:Option Bool->Option W->Option W
 |some true,y=>y
 |some false,_=>some (.val (.bl false))
 |none,_=>none
def orO:Option Bool->Option W->Option W
 |some true,_=>some (.val (.bl true))
 |some false,y=>y
 |none,_=>none
def iffO{d:Type}:Option Bool->Option d->Option d->Option d
 |some true,x,_=>x
 |some false,_,y=>y
 |none,_,_=>none
def appL(f:∅):Option (List D)->Option W
 |some l=>f l
 |none=>none
def consO:Option D->Option (List D)->Option (List D)
 |some d,some l=>some (d::l)
 |_,_=>none
def slO:Option D->Option (Option Int)->Option (Option Int)->Option W
 |some x,some i,some j=>slD x i j
 |_,_,_=>none
def cmpW(c:Cm)(x y:D):Option W:=(cmpD c x y).map λk=>.val (.bl k)
def ixW(x y:D):Option W:=(ixD x y).map W.val
def negW:D->Option W
 |.int i=>some (.val (.int (-i)))
 |_=>none
def notW:Option Bool->Option W
 |some k=>some (.val (.bl (!k)))
 |none=>none
def tupW(d:List D):Option W:=if d.length<=PySem.sizeLine then some (.val (.tup d)) else none
def lstW(d:List D):Option W:=if d.length<=PySem.sizeLine then some (.new d) else none
def isiW(t:Ty)(d:D):Option W:=(zuq t d).map λk=>.val (.bl k)
def isxW(e:List PySem.Str)(d:D):Option W:=(isX e d).map λk=>.val (.bl k)
def isiW_i{t:Ty}{i:Int}:isiW t (.int i)=some (.val (.bl (isTy t (.int i)))):=rfl
def isiW_b{t:Ty}{i:Bool}:isiW t (.bl i)=some (.val (.bl (isTy t (.bl i)))):=rfl
def isiW_t{t:Ty}{l:List D}:isiW t (.tup l)=some (.val (.bl (isTy t (.tup l)))):=rfl
def isiW_l{t:Ty}{l:List D}:isiW t (.lst l)=some (.val (.bl (isTy t (.lst l)))):=rfl
def isiW_n{t:Ty}:isiW t .non=some (.val (.bl (isTy t .non))):=rfl
def isxW_n{d:List PySem.Str}:isxW d .non=some (.val (.bl false)):=rfl
def zipO(x y:Option D):Option (List D):=(x.bind sqD).bind λl=>(y.bind sqD).bind λm=>if l.length=m.length then some (zipD l m) else none
def fldO(j:Nat)(o:Option D):Option W:=(o.bind (fldD j)).map W.val
def fldO_s{a:PySem.Addr}{l:List D}{j:Nat}:fldO j (some (.obj a l))=l[j]?.map W.val:=rfl
section
variable{Γ:Nat->∅}{ρ:Rho}
def evd(Γ:Nat->∅)(e:E)(ρ:Rho):Option D:=(ev Γ e ρ).map W.d
def evb(Γ:Nat->∅)(e:E)(ρ:Rho):Option Bool:=(evd Γ e ρ).bind zbt
def ev_var{i:Nat}:ev Γ (.var i) ρ=(varD ρ i).map W.val:=by simp only[ev]
def ev_int{i:Int}:ev Γ (.int i) ρ=some (.val (.int i)):=by simp only[ev]
def ev_bl{i:Bool}:ev Γ (.bl i) ρ=some (.val (.bl i)):=by simp only[ev]
def ev_non:ev Γ .non ρ=some (.val .non):=by simp only[ev]
def ev_bin{o:Op}{a b:E}:ev Γ (.bin o a b) ρ=bin2 (opW o) (evd Γ a ρ) (evd Γ b ρ):=by
 simp only[ev,evd];cases(ev Γ a ρ)<;>cases(ev Γ b ρ)<;>rfl
def ev_neg{a:E}:ev Γ (.neg a) ρ=un1 negW (evd Γ a ρ):=by
 simp only[ev,evd];cases(ev Γ a ρ) with
 |none=>rfl
 |some w=>simp only[Y7,Ya,un1];cases w.d<;>rfl
def ev_cmp{o:Cm}{a b:E}:ev Γ (.cmp o a b) ρ=bin2 (cmpW o) (evd Γ a ρ) (evd Γ b ρ):=by
 simp only[ev,evd];cases(ev Γ a ρ)<;>cases(ev Γ b ρ)<;>rfl
def ev_and{a b:E}:ev Γ (.and a b) ρ=andO (evb Γ a ρ) (ev Γ b ρ):=by
 simp only[ev,evd,evb];cases(Option.map W.d (ev Γ a ρ)).bind zbt with
 |none=>rfl
 |some k=>cases k<;>rfl
def ev_or{a b:E}:ev Γ (.or a b) ρ=orO (evb Γ a ρ) (ev Γ b ρ):=by
 simp only[ev,evd,evb];cases(Option.map W.d (ev Γ a ρ)).bind zbt with
 |none=>rfl
 |some k=>cases k<;>rfl
def ev_not{a:E}:ev Γ (.not a) ρ=notW (evb Γ a ρ):=by
 simp only[ev,evd,evb];cases(Option.map W.d (ev Γ a ρ)).bind zbt<;>rfl
def ev_tup{l:Es}:ev Γ (.tup l) ρ=appL tupW (evs Γ l ρ):=by
 simp only[ev];cases(evs Γ l ρ)<;>rfl
def ev_lst{l:Es}:ev Γ (.lst l) ρ=appL lstW (evs Γ l ρ):=by
 simp only[ev];cases(evs Γ l ρ)<;>rfl
def ev_ix{a b:E}:ev Γ (.ix a b) ρ=bin2 ixW (evd Γ a ρ) (evd Γ b ρ):=by
 simp only[ev,evd];cases(ev Γ a ρ)<;>cases(ev Γ b ρ)<;>rfl
def ev_sl{a:E}{d e:EO}:ev Γ (.sl a d e) ρ=slO (evd Γ a ρ) (evo Γ d ρ) (evo Γ e ρ):=by
 simp only[ev,evd];cases(ev Γ a ρ)<;>cases(evo Γ d ρ)<;>cases(evo Γ e ρ)<;>rfl
def ylw{f:Nat}{l:Es}:ev Γ (.call f l) ρ=appL (Γ f) (evs Γ l ρ):=by
 simp only[ev];cases(evs Γ l ρ)<;>rfl
def ev_fld{a:E}{j:Nat}:ev Γ (.fld a j) ρ=fldO j (evd Γ a ρ):=by
 simp only[ev,evd,fldO]
def ev_ife{c a b:E}:ev Γ (.ife c a b) ρ=iffO (evb Γ c ρ) (ev Γ a ρ) (ev Γ b ρ):=by
 simp only[ev,evd,evb];cases(Option.map W.d (ev Γ c ρ)).bind zbt with
 |none=>rfl
 |some k=>cases k<;>rfl
def ev_idx{a b:E}:ev Γ (.idx a b) ρ=bin2 idxW (evd Γ a ρ) (evd Γ b ρ):=by
 simp only[ev,evd];cases(ev Γ a ρ)<;>cases(ev Γ b ρ)<;>rfl
def ev_bi{f:Bi}{l:Es}:ev Γ (.bi f l) ρ=appL (biW f) (evs Γ l ρ):=by
 simp only[ev];cases(evs Γ l ρ)<;>rfl
def ev_isi{a:E}{t:Ty}:ev Γ (.isi a t) ρ=un1 (isiW t) (evd Γ a ρ):=by
 simp only[ev,evd];cases(ev Γ a ρ)<;>rfl
def ev_isx{a:E}{d:List PySem.Str}:ev Γ (.isx a d) ρ=un1 (isxW d) (evd Γ a ρ):=by
 simp only[ev,evd];cases(ev Γ a ρ)<;>rfl
def zyx:evs Γ .nil ρ=some []:=by simp only[evs]
def zst{e:E}{l:Es}:evs Γ (.cons e l) ρ=consO (evd Γ e ρ) (evs Γ l ρ):=by
 simp only[evs,evd];cases(ev Γ e ρ)<;>cases(evs Γ l ρ)<;>rfl
def ylt:evo Γ .non ρ=some none:=by simp only[evo]
def yls{e:E}:evo Γ (.som e) ρ=((evd Γ e ρ).bind dInt).map some:=by simp only[evo,evd]
end
def yhy(Γ:Nat->∅):Option Out->Ss->Option Out
 |some (.nx d),l=>exs Γ l d
 |some (.rt w),_=>some (.rt w)
 |none,_=>none
def asgO(d:RhoS)(i:Nat):Option W->Option Out
 |some w=>(setR (after w d) i w.b).map Out.nx
 |none=>none
def unpO(e:RhoS)(f:List Nat):Option W->Option Out
 |some w=>(Bv (.tup f) w.d (after w e)).map Out.nx
 |none=>none
def parO(d:RhoS)(i j:Nat):Option D->Option D->Option Out
 |some x,some y=>if lf x=true/\lf y=true/\i≠j/\i<d.length/\j<d.length then some (.nx ((d.set i (~~~x)).set j (~~~y))) else none
 |_,_=>none
def retO:Option W->Option Out
 |some w=>some (.rt w)
 |none=>none
def yje:Option (Option B)->Option Out
 |some (some (.ow l))=>some (.rt (.new l))
 |some (~~~d)=>some (.rt (.val d))
 |_=>none
def forO(d:D->RhoS->Option RhoS)(e:RhoS->Option Out):Option (List D×RhoS)->Option Out
 |some (l,f)=>forN d e l f
 |none=>none
def tryO(Γ:Nat->∅)(f g i j:Nat)(d:RhoS):Option (List D)->Option Out
 |some e=>match Γ g e with
  |some (.val (.exc z))=>if z∈zvm/\i≠j/\i<d.length then some (.nx (((frz d).set j none).set i (~~~.exc z))) else none
  |_=>(Γ f e).map λ_=>.nx (frz d)
 |none=>none
def outO:Option Out->Option W
 |some (.rt w)=>some w
 |some (.nx _)=>some (.val .non)
 |none=>none
def seqO(e:RhoS):Option W->Option (List D×RhoS)
 |some w=>match w.d with
  |.lst l=>some (l,after w e)
  |.tup l=>some (l,after w e)
  |_=>none
 |none=>none
def rng1O(d:RhoS):Option D->Option (List D×RhoS)
 |some (.int n)=>if -(2^62)<=n/\n<2^62 then some (B8 0 n.toNat,d) else none
 |_=>none
def rng2O(d:RhoS):Option D->Option D->Option (List D×RhoS)
 |some (.int m),some (.int n)=>if -(2^62)<=m/\m<2^62 /\ -(2^62)<=n/\n<2^62 then some (B8 m (n-m).toNat,d) else none
 |_,_=>none
def enumO(d:RhoS):Option D->Option (List D×RhoS)
 |some (.lst l)=>some (zea l,frz d)
 |_=>none
section
variable{Γ:Nat->∅}{ρ:RhoS}
def yln:exs Γ .nil ρ=some (.nx ρ):=by simp only[exs]
def ydy{s:S}{l:Ss}:exs Γ (.cons s l) ρ=yhy Γ (ex Γ s ρ) l:=by
 simp only[exs];cases ex Γ s ρ with
 |none=>rfl
 |some o=>cases o<;>rfl
def ex_asg{i:Nat}{e:E}:ex Γ (.asg i e) ρ=asgO ρ i (ev Γ e (view ρ)):=by
 simp only[ex];cases ev Γ e (view ρ)<;>rfl
def ex_unp{d:List Nat}{e:E}:ex Γ (.unp d e) ρ=unpO ρ d (ev Γ e (view ρ)):=by
 simp only[ex];cases ev Γ e (view ρ)<;>rfl
def ex_par{i j:Nat}{a b:E}:ex Γ (.par i j a b) ρ=parO ρ i j (evd Γ a (view ρ)) (evd Γ b (view ρ)):=by
 simp only[ex,evd];cases ev Γ a (view ρ)<;>cases ev Γ b (view ρ)<;>rfl
def ex_ret{e:E}:ex Γ (.ret e) ρ=retO (ev Γ e (view ρ)):=by
 simp only[ex];cases ev Γ e (view ρ)<;>rfl
def ylq{i:Nat}:ex Γ (.retV i) ρ=yje ρ[i]?:=by
 simp only[ex];cases ρ[i]? with
 |none=>rfl
 |some o=>cases o with
  |none=>rfl
  |some b=>cases b<;>rfl
def ex_iff{c:E}{a b:Ss}:ex Γ (.iff c a b) ρ=iffO (evb Γ c (view ρ)) (exs Γ a ρ) (exs Γ b ρ):=by
 simp only[ex,evB,evb,evd];cases(Option.map W.d (ev Γ c (view ρ))).bind zbt with
 |none=>rfl
 |some k=>cases k<;>rfl
def ex_whl{c:E}{b:Ss}:ex Γ (.whl c b) ρ=zkn (evB Γ c) (exs Γ b) ρ:=by simp only[ex]
def ex_frr{t:Tg}{d:It'}{b:Ss}:ex Γ (.frr t d b) ρ=forO (Bv t) (exs Γ b) (evI Γ d ρ):=by
 simp only[ex];cases evI Γ d ρ<;>rfl
def ylo{f g:Nat}{l:Es}{i j:Nat}:ex Γ (.tryC f g l i j) ρ=tryO Γ f g i j ρ (evs Γ l (view ρ)):=by
 simp only[ex];cases evs Γ l (view ρ) with
 |none=>rfl
 |some h=>
  rw[Ya];unfold tryO;cases e:Γ g h with
  |none=>simp only[e]
  |some w=>cases w with
   |new l=>simp only[e]
   |val d=>cases d<;>simp only[e]
def evB_eq{c:E}:evB Γ c ρ=evb Γ c (view ρ):=rfl
def ymc{e:E}:evI Γ (.seq e) ρ=seqO ρ (ev Γ e (view ρ)):=by
 simp only[evI];cases ev Γ e (view ρ)<;>rfl
def ydz{i:Nat}:evI Γ (.seqV i) ρ=seqB ρ ρ[i]?:=by simp only[evI]
def seqB_l{l:List D}:seqB ρ (some (~~~.lst l))=some (l,ρ):=rfl
def seqB_t{l:List D}:seqB ρ (some (~~~.tup l))=some (l,ρ):=rfl
def seqB_o{l:List D}:seqB ρ (some (some (.ow l)))=some (l,frz ρ):=rfl
def zuw{e:E}:evI Γ (.range1 e) ρ=rng1O ρ (evd Γ e (view ρ)):=by
 simp only[evI,evd];cases ev Γ e (view ρ) with
 |none=>rfl
 |some w=>simp only[Y7,Ya];cases w.d<;>rfl
def zuv{a b:E}:evI Γ (.range2 a b) ρ=rng2O ρ (evd Γ a (view ρ)) (evd Γ b (view ρ)):=by
 simp only[evI,evd];cases ev Γ a (view ρ) with
 |none=>rfl
 |some w=>
  cases ev Γ b (view ρ) with
  |none=>simp only[Y7,Ya];cases w.d<;>rfl
  |some u=>simp only[Y7,Ya];cases w.d<;>cases u.d<;>rfl
def ymb{a b:E}:evI Γ (.zip a b) ρ=(zipO (evd Γ a (view ρ)) (evd Γ b (view ρ))).map λl=>(l,frz ρ):=by
 simp only[evI,evd,zipO];cases((ev Γ a (view ρ)).map W.d).bind sqD with
 |none=>rfl
 |some l=>
  cases((ev Γ b (view ρ)).map W.d).bind sqD with
  |none=>rfl
  |some m=>
   simp only[Ya];by_cases e:l.length=m.length
   ·rw[if_pos e,if_pos e];rfl
   ·rw[if_neg e,if_neg e];rfl
def yea{e:E}:evI Γ (.enum e) ρ=enumO ρ (evd Γ e (view ρ)):=by
 simp only[evI,evd];cases ev Γ e (view ρ) with
 |none=>rfl
 |some w=>simp only[Y7,Ya];cases w.d<;>rfl
def run_eq{b:Ss}{n:Nat}{e:List D}:run Γ b n e=outO (exs Γ b (e.map (λd=>~~~d)++List.replicate (n-e.length) none)):=by
 unfold run;cases exs Γ b (e.map (λd=>~~~d)++List.replicate (n-e.length) none) with
 |none=>rfl
 |some o=>cases o<;>rfl
end
section
variable{Γ:Nat->∅}{ρ:RhoS}
def bin2_s{f:D->D->Option W}{x y:D}:bin2 f (some x) (some y)=f x y:=rfl
def un1_s{f:D->Option W}{x:D}:un1 f (some x)=f x:=rfl
def andO_t{y:Option W}:andO (some true) y=y:=rfl
def andO_f{y:Option W}:andO (some false) y=some (.val (.bl false)):=rfl
def orO_t{y:Option W}:orO (some true) y=some (.val (.bl true)):=rfl
def orO_f{y:Option W}:orO (some false) y=y:=rfl
def iffO_t{d:Type}{x y:Option d}:iffO (some true) x y=x:=rfl
def iffO_f{d:Type}{x y:Option d}:iffO (some false) x y=y:=rfl
def appL_s{f:∅}{l:List D}:appL f (some l)=f l:=rfl
def ymk{d:D}{l:List D}:consO (some d) (some l)=some (d::l):=rfl
def slO_s{x:D}{i j:Option Int}:slO (some x) (some i) (some j)=slD x i j:=rfl
def notW_s{k:Bool}:notW (some k)=some (.val (.bl (!k))):=rfl
def ybj{l:Ss}:yhy Γ (some (.nx ρ)) l=exs Γ l ρ:=rfl
def ybi{l:Ss}{w:W}:yhy Γ (some (.rt w)) l=some (.rt w):=rfl
def asgO_s{i:Nat}{w:W}:asgO ρ i (some w)=(setR (after w ρ) i w.b).map Out.nx:=rfl
def unpO_s{e:List Nat}{w:W}:unpO ρ e (some w)=(Bv (.tup e) w.d (after w ρ)).map Out.nx:=rfl
def parO_s{i j:Nat}{x y:D}:parO ρ i j (some x) (some y)=if lf x=true/\lf y=true/\i≠j/\i<ρ.length/\j<ρ.length then some (.nx ((ρ.set i (~~~x)).set j (~~~y))) else none:=rfl
def retO_s{w:W}:retO (some w)=some (.rt w):=rfl
def yjd{l:List D}:yje (some (some (.ow l)))=some (.rt (.new l)):=rfl
def yjc{d:D}:yje (some (~~~d))=some (.rt (.val d)):=rfl
def forO_s{d:D->RhoS->Option RhoS}{e:RhoS->Option Out}{l:List D}:forO d e (some (l,ρ))=forN d e l ρ:=rfl
def yjs{w:W}:outO (some (.rt w))=some w:=rfl
def yjt:outO (some (.nx ρ))=some (.val .non):=rfl
def yir{l:List D}:seqO ρ (some (.new l))=some (l,after (.new l) ρ):=rfl
def yiq{l:List D}:seqO ρ (some (.val (.lst l)))=some (l,after (.val (.lst l)) ρ):=rfl
def yip{l:List D}:seqO ρ (some (.val (.tup l)))=some (l,after (.val (.tup l)) ρ):=rfl
def yme{l:List D}:enumO ρ (some (.lst l))=some (zea l,frz ρ):=rfl
def yix{n:Int}:rng1O ρ (some (.int n))=if -(2^62)<=n/\n<2^62 then some (B8 0 n.toNat,ρ) else none:=rfl
def yiw{m n:Int}:rng2O ρ (some (.int m)) (some (.int n))=if -(2^62)<=m/\m<2^62 /\ -(2^62)<=n/\n<2^62 then some (B8 m (n-m).toNat,ρ) else none:=rfl
def varD_0{o:Option D}{r:Rho}:varD (o::r) 0=o:=by cases o<;>rfl
def varD_s{o:Option D}{r:Rho}{i:Nat}:varD (o::r) (i+1)=varD r i:=rfl
def yar:view []=[]:=rfl
def zvq{o:Option B}{r:RhoS}:view (o::r)=o.map B.d::view r:=rfl
def ynp{i:Int}:after (.val (.int i)) ρ=ρ:=rfl
def ynq{i:Bool}:after (.val (.bl i)) ρ=ρ:=rfl
def yno:after (.val .non) ρ=ρ:=rfl
def Wd_v{d:D}:(W.val d).d=d:=rfl
def Wd_n{l:List D}:(W.new l).d=.lst l:=rfl
def Wb_v{d:D}:(W.val d).b=.sh d:=rfl
def Wb_n{l:List D}:(W.new l).b=.ow l:=rfl
def Bd_s{d:D}:(B.sh d).d=d:=rfl
def Bd_o{l:List D}:(B.ow l).d=.lst l:=rfl
def ymj{k:Bool}:zbt (.bl k)=some k:=rfl
def ygx{k:Int}:dInt (.int k)=some k:=rfl
def setR_0{o:Option B}{b:B}:setR (o::ρ) 0 b=some (some b::ρ):=rfl
def setR_s{o:Option B}{i:Nat}{b:B}:setR (o::ρ) (i+1) b=(setR ρ i b).map (o :: ·):=by
 unfold setR;by_cases h:i<ρ.length
 ·rw[if_pos h,if_pos (by rw[Zq];omega)];rfl
 ·rw[if_neg h,if_neg (by rw[Zq];omega)];rfl
def op_add{a b:Int}:opW .add (.int a) (.int b)=some (.val (.int (a+b))):=rfl
def op_sub{a b:Int}:opW .sub (.int a) (.int b)=some (.val (.int (a-b))):=rfl
def op_mul{a b:Int}:opW .mul (.int a) (.int b)=if Bn a b=true then some (.val (.int (a*b))) else none:=rfl
def op_fdiv{a b:Int}:opW .fdiv (.int a) (.int b)=if zbm b=true then some (.val (.int (a.fdiv b))) else none:=rfl
def op_mod{a b:Int}:opW .mod (.int a) (.int b)=if b=0 then none else some (.val (.int (a.fmod b))):=rfl
def op_pow{a b:Int}:opW .pow (.int a) (.int b)=if zfz a b=true then some (.val (.int (a^b.toNat))) else none:=rfl
end
def sl0:(0<=PySem.sizeLine)=True:=eq_true vA
def sl1:(1<=PySem.sizeLine)=True:=eq_true vA
def sl2:(2<=PySem.sizeLine)=True:=eq_true vA
def sl3:(3<=PySem.sizeLine)=True:=eq_true vA
def sl4:(4<=PySem.sizeLine)=True:=eq_true vA
def sl5:(5<=PySem.sizeLine)=True:=eq_true vA
def sl6:(6<=PySem.sizeLine)=True:=eq_true vA
def sl7:(7<=PySem.sizeLine)=True:=eq_true vA
def sl8:(8<=PySem.sizeLine)=True:=eq_true vA
def sl9:(9<=PySem.sizeLine)=True:=eq_true vA
def at1_0{a:D}:L2.atI [a] 0=some a:=rfl
def at2_0{a b:D}:L2.atI [a,b] 0=some a:=rfl
def at2_1{a b:D}:L2.atI [a,b] 1=some b:=rfl
def at3_0{a b c:D}:L2.atI [a,b,c] 0=some a:=rfl
def at3_1{a b c:D}:L2.atI [a,b,c] 1=some b:=rfl
def at3_2{a b c:D}:L2.atI [a,b,c] 2=some c:=rfl
def at4_0{a b c d:D}:L2.atI [a,b,c,d] 0=some a:=rfl
def at4_1{a b c d:D}:L2.atI [a,b,c,d] 1=some b:=rfl
def at4_2{a b c d:D}:L2.atI [a,b,c,d] 2=some c:=rfl
def at4_3{a b c d:D}:L2.atI [a,b,c,d] 3=some d:=rfl
def at5_0{a b c d e:D}:L2.atI [a,b,c,d,e] 0=some a:=rfl
def at5_1{a b c d e:D}:L2.atI [a,b,c,d,e] 1=some b:=rfl
def at5_2{a b c d e:D}:L2.atI [a,b,c,d,e] 2=some c:=rfl
def at5_3{a b c d e:D}:L2.atI [a,b,c,d,e] 3=some d:=rfl
def at5_4{a b c d e:D}:L2.atI [a,b,c,d,e] 4=some e:=rfl
def at6_0{a b c d e f:D}:L2.atI [a,b,c,d,e,f] 0=some a:=rfl
def at6_1{a b c d e f:D}:L2.atI [a,b,c,d,e,f] 1=some b:=rfl
def at6_2{a b c d e f:D}:L2.atI [a,b,c,d,e,f] 2=some c:=rfl
def at6_3{a b c d e f:D}:L2.atI [a,b,c,d,e,f] 3=some d:=rfl
def at6_4{a b c d e f:D}:L2.atI [a,b,c,d,e,f] 4=some e:=rfl
def at6_5{a b c d e f:D}:L2.atI [a,b,c,d,e,f] 5=some f:=rfl
def zbz{a b:Int}(h:0<b):a.fmod b=a%b:=Q0 _ vB
def zmi{a b:Int}(h:0<b):a.fdiv b=a/b:=Vf _ vB
def zeo{b:Int}(d:0<b)(e:b<1000000000000000000000000000000000000000000000000000000000000000000000000000000000000000000000000000000000000000000000000000000000000000000000000000000):zbm b=true:=by
 unfold zbm;rw[Zj];refine⟨decide_eq_true vB,decide_eq_true ?_⟩
 have:(1000000000000000000000000000000000000000000000000000000000000000000000000000000000000000000000000000000000000000000000000000000000000000000000000000000:Nat)<=2^9000:=by decide +kernel
 omega
def Bx{a b:Int}(d : -1000000000000000000000000000000000000000000000000000000000000000000000000000000000000000000000000000000000000000000000000000000000000000000000000000000<a)(e:a<1000000000000000000000000000000000000000000000000000000000000000000000000000000000000000000000000000000000000000000000000000000000000000000000000000000)(f : -1000000000000000000000000000000000000000000000000000000000000000000000000000000000000000000000000000000000000000000000000000000000000000000000000000000<b)(g:b<1000000000000000000000000000000000000000000000000000000000000000000000000000000000000000000000000000000000000000000000000000000000000000000000000000000):Bn a b=true:=by
 unfold Bn;rw[Zj];have:(1000000000000000000000000000000000000000000000000000000000000000000000000000000000000000000000000000000000000000000000000000000000000000000000000000000:Nat)<=2^16000:=by decide +kernel
 exact⟨decide_eq_true vB,decide_eq_true vB⟩
def op_p4:opW .pow (.int 10) (.int 4)=some (.val (.int 10000)):=by
 have h:zfz 10 4=true:=by decide +kernel
 have e:((10:Int)^Int.toNat 4)=10000:=by decide +kernel
 rw[op_pow,if_pos h,e]
def op_p5:opW .pow (.int 10) (.int 5)=some (.val (.int 100000)):=by
 have h:zfz 10 5=true:=by decide +kernel
 have e:((10:Int)^Int.toNat 5)=100000:=by decide +kernel
 rw[op_pow,if_pos h,e]
def op_p6:opW .pow (.int 10) (.int 6)=some (.val (.int 1000000)):=by
 have h:zfz 10 6=true:=by decide +kernel
 have e:((10:Int)^Int.toNat 6)=1000000:=by decide +kernel
 rw[op_pow,if_pos h,e]
def op_p9:opW .pow (.int 10) (.int 9)=some (.val (.int 1000000000)):=by
 have h:zfz 10 9=true:=by decide +kernel
 have e:((10:Int)^Int.toNat 9)=1000000000:=by decide +kernel
 rw[op_pow,if_pos h,e]
def op_p10:opW .pow (.int 10) (.int 10)=some (.val (.int 10000000000)):=by
 have h:zfz 10 10=true:=by decide +kernel
 have e:((10:Int)^Int.toNat 10)=10000000000:=by decide +kernel
 rw[op_pow,if_pos h,e]
def op_p18:opW .pow (.int 10) (.int 18)=some (.val (.int 1000000000000000000)):=by
 have h:zfz 10 18=true:=by decide +kernel
 have e:((10:Int)^Int.toNat 18)=1000000000000000000:=by decide +kernel
 rw[op_pow,if_pos h,e]
def op_p30:opW .pow (.int 10) (.int 30)=some (.val (.int 1000000000000000000000000000000)):=by
 have h:zfz 10 30=true:=by decide +kernel
 have e:((10:Int)^Int.toNat 30)=1000000000000000000000000000000:=by decide +kernel
 rw[op_pow,if_pos h,e]
def op_p60:opW .pow (.int 10) (.int 60)=some (.val (.int 1000000000000000000000000000000000000000000000000000000000000)):=by
 have h:zfz 10 60=true:=by decide +kernel
 have e:((10:Int)^Int.toNat 60)=1000000000000000000000000000000000000000000000000000000000000:=by decide +kernel
 rw[op_pow,if_pos h,e]
def op_p64:opW .pow (.int 10) (.int 64)=some (.val (.int 10000000000000000000000000000000000000000000000000000000000000000)):=by
 have h:zfz 10 64=true:=by decide +kernel
 have e:((10:Int)^Int.toNat 64)=10000000000000000000000000000000000000000000000000000000000000000:=by decide +kernel
 rw[op_pow,if_pos h,e]
def cs0:((0:Nat):Int)=0:=rfl
def cs1:((1:Nat):Int)=1:=rfl
def cs2:((2:Nat):Int)=2:=rfl
def cs3:((3:Nat):Int)=3:=rfl
def cs4:((4:Nat):Int)=4:=rfl
def cs5:((5:Nat):Int)=5:=rfl
def cs6:((6:Nat):Int)=6:=rfl
def cs7:((7:Nat):Int)=7:=rfl
def cs8:((8:Nat):Int)=8:=rfl
def cs9:((9:Nat):Int)=9:=rfl
def cs10:((10:Nat):Int)=10:=rfl
def cs11:((11:Nat):Int)=11:=rfl
def cs12:((12:Nat):Int)=12:=rfl
def ixD_t{l:List D}{i:Int}:ixD (.tup l) (.int i)=L2.atI l i:=rfl
def ixD_l{l:List D}{i:Int}:ixD (.lst l) (.int i)=L2.atI l i:=rfl
def slD_l{l:List D}{i j:Option Int}:slD (.lst l) i j=some (.new (cutD l i j)):=rfl
def yfa{i:Nat}{d:D}{e:RhoS}:Bv (.name i) d e=setR e i (.sh d):=rfl
def yez{d:List Nat}{e:List D}{f:RhoS}:Bv (.tup d) (.tup e) f=zgg d e f:=rfl
def appO(e:RhoS)(i:Nat):Option (Option B)->Option W->Option Out
 |some (some (.ow l)),some (.val d)=>if lf d=true/\l.length<PySem.sizeLine then some (.nx (e.set i (some (.ow (l++[d]))))) else none
 |_,_=>none
def popO(d:RhoS)(i:Nat):Option (Option B)->Option Out
 |some (some (.ow l))=>if l=[] then none else some (.nx (d.set i (some (.ow l.dropLast))))
 |_=>none
def clrO(d:RhoS)(i:Nat):Option (Option B)->Option Out
 |some (some (.ow _))=>some (.nx (d.set i (some (.ow []))))
 |_=>none
def zub(e:RhoS)(i:Nat):Option (Option B)->Option W->Option D->Option Out
 |some (some (.ow l)),some (.val d),some (.int j)=>if lf d=true then(L2.ixN l.length j).map λn=>.nx (e.set i (some (.ow (l.set n d)))) else none
 |_,_,_=>none
section
variable{Γ:Nat->∅}{ρ:RhoS}
def ex_app{i:Nat}{e:E}:ex Γ (.app i e) ρ=appO ρ i ρ[i]? (ev Γ e (view ρ)):=by
 simp only[ex];cases ev Γ e (view ρ) with
 |none=>
  rw[Um];unfold appO;cases ρ[i]? with
  |none=>rfl
  |some o=>cases o with
   |none=>rfl
   |some b=>cases b<;>rfl
 |some w=>
  rw[Ya];unfold appO;cases ρ[i]? with
  |none=>rfl
  |some o=>cases o with
   |none=>rfl
   |some b=>cases b<;>cases w<;>rfl
def ex_pop{i:Nat}:ex Γ (.pop i) ρ=popO ρ i ρ[i]?:=by
 simp only[ex];unfold popO;cases ρ[i]? with
 |none=>rfl
 |some o=>cases o with
  |none=>rfl
  |some b=>cases b<;>rfl
def ex_clr{i:Nat}:ex Γ (.clr i) ρ=clrO ρ i ρ[i]?:=by
 simp only[ex];unfold clrO;cases ρ[i]? with
 |none=>rfl
 |some o=>cases o with
  |none=>rfl
  |some b=>cases b<;>rfl
def ylp{i:Nat}{k e:E}:ex Γ (.seti i k e) ρ=zub ρ i ρ[i]? (ev Γ e (view ρ)) (evd Γ k (view ρ)):=by
 simp only[ex,evd];cases ev Γ e (view ρ) with
 |none=>
  rw[Um];unfold zub;cases ρ[i]? with
  |none=>rfl
  |some o=>cases o with
   |none=>rfl
   |some b=>cases b<;>rfl
 |some w=>
  rw[Ya];cases ev Γ k (view ρ) with
  |none=>
   unfold zub;cases ρ[i]? with
   |none=>rfl
   |some o=>cases o with
    |none=>rfl
    |some b=>cases b<;>cases w<;>rfl
  |some u=>
   simp only[Y7,Ya];cases u.d with
   |int j=>
    unfold zub;cases ρ[i]? with
    |none=>rfl
    |some o=>cases o with
     |none=>rfl
     |some b=>cases b<;>cases w<;>rfl
   |_=>
    unfold zub;cases ρ[i]? with
    |none=>rfl
    |some o=>cases o with
     |none=>rfl
     |some b=>cases b<;>cases w<;>rfl
def appO_s{i:Nat}{l:List D}{d:D}:appO ρ i (some (some (.ow l))) (some (.val d))=if lf d=true/\l.length<PySem.sizeLine then some (.nx (ρ.set i (some (.ow (l++[d]))))) else none:=rfl
def popO_s{i:Nat}{l:List D}:popO ρ i (some (some (.ow l)))=if l=[] then none else some (.nx (ρ.set i (some (.ow l.dropLast)))):=rfl
def clrO_s{i:Nat}{l:List D}:clrO ρ i (some (some (.ow l)))=some (.nx (ρ.set i (some (.ow [])))):=rfl
def yil{i:Nat}{l:List D}{d:D}{j:Int}:zub ρ i (some (some (.ow l))) (some (.val d)) (some (.int j))=if lf d=true then(L2.ixN l.length j).map λn=>.nx (ρ.set i (some (.ow (l.set n d)))) else none:=rfl
end
section
variable{Γ:Nat->∅}{ρ:Rho}
def ev_fm{f:Fm}{l:Es}:ev Γ (.fm f l) ρ=appL (fmW f) (evs Γ l ρ):=by
 simp only[ev];cases(evs Γ l ρ)<;>rfl
def ev_lcp{a:E}:ev Γ (.lcp a) ρ=un1 lcpW (evd Γ a ρ):=by
 simp only[ev,evd];cases(ev Γ a ρ)<;>rfl
def zwh(Γ:Nat->∅)(f:E)(t:Tg)(g:Nat)(fr:List Nat)(c:EO)(ρ:Rho)(d:D):Option (Option D):=
 (zby t d (blkR g fr ρ)).bind λe=>(evc Γ c e).bind λk=>if k=true then((ev Γ f e).map W.d).map some else some none
def zqu{e:E}{t:Tg}{g:It'}{f:Nat}{fr:List Nat}{c:EO}:ev Γ (.comp e t g f fr c) ρ=(evW Γ g ρ).bind λd=>if d.length<=PySem.sizeLine/\tgOk f t=true then(zcg (zwh Γ e t f fr c ρ) d).map W.new else none:=by
 simp only[ev];rfl
def yly{e:E}:evW Γ (.seq e) ρ=(evd Γ e ρ).bind seqD:=by simp only[evW,evd]
def zsu{i:Nat}:evW Γ (.seqV i) ρ=(varD ρ i).bind seqD:=by simp only[evW]
def zkw{a:E}:evW Γ (.range1 a) ρ=((evd Γ a ρ).bind dInt).bind λn=>if -(2^62)<=n/\n<2^62 then some (B8 0 n.toNat) else none:=by simp only[evW,evd]
def ylz{e:E}:evW Γ (.rev e) ρ=((evd Γ e ρ).bind lstD).map List.reverse:=by simp only[evW,evd]
def ylx{a b:E}:evW Γ (.zip a b) ρ=zipO (evd Γ a ρ) (evd Γ b ρ):=by
 simp only[evW,evd,zipO]
def ylv:evc Γ .non ρ=some true:=by simp only[evc]
def ylu{e:E}:evc Γ (.som e) ρ=evb Γ e ρ:=by simp only[evc,evb,evd]
theorem zjj{d:Type}{f:D->Option (Option D)}{g:d->D}{h:d->D}:∀{l:List d},(∀x∈l,f (g x)=some (some (h x)))->zcg f (l.map g)=some (l.map h)
 |[],_=>rfl
 |x::l,e=>by
  rw[Zz,Zz];unfold zcg;rw[e x (.head _)];simp only
  rw[zjj λy i=>e y (.tail _ i)];rfl
def zep{d:Type}{elt:E}{t:Tg}{it:It'}{nt:Nat}{fr:List Nat}{c:EO}{l:List d}{g h:d->D}(e:evW Γ it ρ=some (l.map g))(f:l.length<=PySem.sizeLine)(i:tgOk nt t=true)(j:∀x∈l,zwh Γ elt t nt fr c ρ (g x)=some (some (h x))):
  ev Γ (.comp elt t it nt fr c) ρ=some (.new (l.map h)):=by
 rw[zqu,e,Ya,if_pos ⟨by rw[Zd];exact f,i⟩,zjj j];rfl
end
def yac{i:Nat}{d:D}{e:Rho}:zby (.name i) d e=setE e i d:=rfl
def yab{d:List Nat}{e:List D}{f:Rho}:zby (.tup d) (.tup e) f=zcl d e f:=rfl
def setE_0{o:Option D}{d:D}{e:Rho}:setE (o::e) 0 d=some (some d::e):=rfl
def setE_s{o:Option D}{i:Nat}{d:D}{e:Rho}:setE (o::e) (i+1) d=(setE e i d).map (o :: ·):=by
 unfold setE;by_cases h:i<e.length
 ·rw[if_pos h,if_pos (by rw[Zq];omega)];rfl
 ·rw[if_neg h,if_neg (by rw[Zq];omega)];rfl
end DL
namespace DL
section
def Be{d e:Type}{o g:Option d}{f i:d->Option e}{y:e}(j:∀x,o=some x->g=some x)(l:∀x y,f x=some y->i x=some y)(h:o.bind f=some y):g.bind i=some y:=by
 obtain⟨x,m,n⟩:=Za.mp h
 rw[j x m,Ya];exact l x y n
def Br{d e:Type}{o g:Option d}{f:d->e}{y:e}(i:∀x,o=some x->g=some x)(h:o.map f=some y):g.map f=some y:=by
 obtain⟨x,j,l⟩:=Zb.mp h
 rw[i x j,Y7,l]
def zkv{d:Type}{c:Prop} [Decidable c]{a b e f:Option d}{y:d}(g:a=some y->e=some y)(i:b=some y->f=some y)(h:(if c then a else b)=some y):(if c then e else f)=some y:=by
 by_cases q:c
 ·rw[if_pos q] at h |-;exact g h
 ·rw[if_neg q] at h |-;exact i h
theorem zmn{f g:D->Option (Option D)}(h:∀d y,f d=some y->g d=some y):∀{l:List D}{r:List D},zcg f l=some r->zcg g l=some r
 |[],_,q=>q
 |d::l,r,q=>by
  unfold zcg at q |-;cases e:f d with
  |none=>rw[e] at q;cases q
  |some o=>
   rw[e] at q;rw[h d o e];cases o with
   |none=>exact zmn h q
   |some x=>exact Br (λr=>zmn h) q
variable{Γ Γ':Nat->∅}
mutual
theorem By(h:∀f n w,Γ f n=some w->Γ' f n=some w):∀(e:E) (g:Rho) (w:W),ev Γ e g=some w->ev Γ' e g=some w
 |.var i,g,w,q=>by simp only[ev] at q |-;exact q
 |.int i,g,w,q=>by simp only[ev] at q |-;exact q
 |.bl b,g,w,q=>by simp only[ev] at q |-;exact q
 |.non,g,w,q=>by simp only[ev] at q |-;exact q
 |.bin o a b,g,w,q=>by
  simp only[ev] at q |-;exact Be (λx=>Br (By h a g)) (λx y=>Be (λx=>Br (By h b g)) λ_ _ z=>z) q
 |.neg a,g,w,q=>by
  simp only[ev] at q |-;exact Br (λx=>Be (λx=>Br (By h a g)) λ_ _ z=>z) q
 |.cmp c a b,g,w,q=>by
  simp only[ev] at q |-;exact Be (λx=>Br (By h a g)) (λx y=>Be (λx=>Br (By h b g)) λ_ _ z=>z) q
 |.and a b,g,w,q=>by
  simp only[ev] at q |-;exact Be (λx=>Be (λx=>Br (By h a g)) λ_ _ z=>z) (λx y=>zkv (By h b g y) λz=>z) q
 |.or a b,g,w,q=>by
  simp only[ev] at q |-;exact Be (λx=>Be (λx=>Br (By h a g)) λ_ _ z=>z) (λx y=>zkv (λz=>z) (By h b g y)) q
 |.not a,g,w,q=>by
  simp only[ev] at q |-;exact Br (λx=>Be (λx=>Br (By h a g)) λ_ _ z=>z) q
 |.ife c a b,g,w,q=>by
  simp only[ev] at q |-;exact Be (λx=>Be (λx=>Br (By h c g)) λ_ _ z=>z) (λx y=>zkv (By h a g y) (By h b g y)) q
 |.tup l,g,w,q=>by
  simp only[ev] at q |-;exact Be (evs_le h l g) (λ_ _ z=>z) q
 |.lst l,g,w,q=>by
  simp only[ev] at q |-;exact Be (evs_le h l g) (λ_ _ z=>z) q
 |.ix a b,g,w,q=>by
  simp only[ev] at q |-;exact Be (λx=>Br (By h a g)) (λx y=>Be (λx=>Br (By h b g)) λ_ _ z=>z) q
 |.sl a lo u,g,w,q=>by
  simp only[ev] at q |-;exact Be (λx=>Br (By h a g)) (λx y=>Be (evo_le h lo g) λ_ _=>Be (evo_le h u g) λ_ _ z=>z) q
 |.call f l,g,w,q=>by
  simp only[ev] at q |-;exact Be (evs_le h l g) (λn y=>h f n y) q
 |.bi f l,g,w,q=>by
  simp only[ev] at q |-;exact Be (evs_le h l g) (λ_ _ z=>z) q
 |.isi a t,g,w,q=>by
  simp only[ev] at q |-;exact Be (λx=>Br (By h a g)) (λ_ _ z=>z) q
 |.isx a A,g,w,q=>by
  simp only[ev] at q |-;exact Be (λx=>Br (By h a g)) (λ_ _ z=>z) q
 |.idx a b,g,w,q=>by
  simp only[ev] at q |-;exact Be (λx=>Br (By h a g)) (λx y=>Be (λx=>Br (By h b g)) λ_ _ z=>z) q
 |.fld a j,g,w,q=>by
  simp only[ev] at q |-;exact Br (λx=>Be (λx=>Br (By h a g)) λ_ _ z=>z) q
 |.fm f l,g,w,q=>by
  simp only[ev] at q |-;exact Be (evs_le h l g) (λ_ _ z=>z) q
 |.lcp a,g,w,q=>by
  simp only[ev] at q |-;exact Be (λx=>Br (By h a g)) (λ_ _ z=>z) q
 |.comp p t v B fr c,g,w,q=>by
  simp only[ev] at q |-;refine Be (evW_le h v g) (λs y=>zkv (Br λr=>zmn λd y=>?_) λz=>z) q;exact Be (λ_ z=>z) (λm y=>Be (evc_le h c m) λk y=>zkv (Br λx=>Br (By h p m)) λz=>z)
theorem evs_le(h:∀f g w,Γ f g=some w->Γ' f g=some w):∀(l:Es) (d:Rho) (w:List D),evs Γ l d=some w->evs Γ' l d=some w
 |.nil,d,w,q=>by simp only[evs] at q |-;exact q
 |.cons e l,d,w,q=>by
  simp only[evs] at q |-;exact Be (λx=>Br (By h e d)) (λx y=>Br (evs_le h l d)) q
theorem evo_le(h:∀f g w,Γ f g=some w->Γ' f g=some w):∀(l:EO) (d:Rho) (w:Option Int),evo Γ l d=some w->evo Γ' l d=some w
 |.non,d,w,q=>by simp only[evo] at q |-;exact q
 |.som e,d,w,q=>by
  simp only[evo] at q |-;exact Br (λx=>Be (λx=>Br (By h e d)) λ_ _ z=>z) q
theorem evc_le(h:∀f g w,Γ f g=some w->Γ' f g=some w):∀(l:EO) (d:Rho) (w:Bool),evc Γ l d=some w->evc Γ' l d=some w
 |.non,d,w,q=>by simp only[evc] at q |-;exact q
 |.som e,d,w,q=>by
  simp only[evc] at q |-;exact Be (λx=>Br (By h e d)) (λ_ _ z=>z) q
theorem evW_le(h:∀f g w,Γ f g=some w->Γ' f g=some w):∀(l:It') (d:Rho) (w:List D),evW Γ l d=some w->evW Γ' l d=some w
 |.seq e,d,w,q=>by
  simp only[evW] at q |-;exact Be (λx=>Br (By h e d)) (λ_ _ z=>z) q
 |.seqV i,d,w,q=>by simp only[evW] at q |-;exact q
 |.range1 a,d,w,q=>by
  simp only[evW] at q |-;exact Be (λx=>Be (λx=>Br (By h a d)) λ_ _ z=>z) (λ_ _ z=>z) q
 |.range2 a b,d,w,q=>by
  simp only[evW] at q |-;exact Be (λx=>Be (λx=>Br (By h a d)) λ_ _ z=>z) (λ_ _=>Be (λx=>Be (λx=>Br (By h b d)) λ_ _ z=>z) λ_ _ z=>z) q
 |.enum e,d,w,q=>by
  simp only[evW] at q |-;exact Br (λx=>Be (λx=>Br (By h e d)) λ_ _ z=>z) q
 |.rev e,d,w,q=>by
  simp only[evW] at q |-;exact Br (λx=>Be (λx=>Br (By h e d)) λ_ _ z=>z) q
 |.zip a b,d,w,q=>by
  simp only[evW] at q |-;exact Be (λx=>Be (λx=>Br (By h a d)) λ_ _ z=>z) (λ_ _=>Be (λx=>Be (λx=>Br (By h b d)) λ_ _ z=>z) λ_ _ z=>z) q
end
theorem evI_le(h:∀f g w,Γ f g=some w->Γ' f g=some w):∀(l:It') (d:RhoS) (w:List D×RhoS),evI Γ l d=some w->evI Γ' l d=some w
 |.seq e,d,w,q=>by
  simp only[evI] at q |-;exact Be (By h e (view d)) (λ_ _ z=>z) q
 |.seqV i,d,w,q=>by simp only[evI] at q |-;exact q
 |.range1 a,d,w,q=>by
  simp only[evI] at q |-;exact Be (λx=>Be (λx=>Br (By h a (view d))) λ_ _ z=>z) (λ_ _ z=>z) q
 |.range2 a b,d,w,q=>by
  simp only[evI] at q |-;exact Be (λx=>Be (λx=>Br (By h a (view d))) λ_ _ z=>z) (λ_ _=>Be (λx=>Be (λx=>Br (By h b (view d))) λ_ _ z=>z) λ_ _ z=>z) q
 |.enum e,d,w,q=>by
  simp only[evI] at q |-;exact Be (By h e (view d)) (λ_ _ z=>z) q
 |.rev e,d,w,q=>by simp only[evI] at q;cases q
 |.zip a b,d,w,q=>by
  simp only[evI] at q |-;exact Be (λx=>Be (λx=>Br (By h a (view d))) λ_ _ z=>z) (λ_ _=>Be (λx=>Be (λx=>Br (By h b (view d))) λ_ _ z=>z) λ_ _ z=>z) q
theorem zmz{c h:RhoS->Option Bool}{b i:RhoS->Option Out}(j:∀d k,c d=some k->h d=some k)(l:∀d o,b d=some o->i d=some o):∀(n:Nat) (d:RhoS) (o:Out),zaw c b n d=some o->zaw h i n d=some o
 |0,_,_,q=>by cases q
 |n+1,d,o,q=>by
  unfold zaw at q |-;cases e:c d with
  |none=>rw[e] at q;cases q
  |some k=>
   simp only[e] at q;simp only[j d k e];cases k with
   |false=>exact q
   |true=>
    cases f:b d with
    |none=>simp only[f] at q;cases q
    |some o2=>
     simp only[f] at q;simp only[l d o2 f];cases o2 with
     |rt w=>exact q
     |nx g=>exact zmz j l n g o q
theorem zyu{h:D->RhoS->Option RhoS}{b m:RhoS->Option Out}(n:∀f o,b f=some o->m f=some o):∀(l:List D) (f:RhoS) (o:Out),forN h b l f=some o->forN h m l f=some o
 |[],_,_,q=>q
 |d::l,f,o,q=>by
  unfold forN at q |-;cases e:h d f with
  |none=>rw[e] at q;cases q
  |some g=>
   simp only[e] at q;simp only
   cases i:b g with
   |none=>simp only[i] at q;cases q
   |some o2=>
    simp only[i] at q;simp only[n g o2 i];cases o2 with
    |rt w=>exact q
    |nx j=>exact zyu n l j o q
mutual
def zxq:S->Bool
 |.tryC _ _ _ _ _=>false
 |.iff _ a b=>noTrys a && noTrys b
 |.whl _ b=>noTrys b
 |.frr _ _ b=>noTrys b
 |_=>true
def noTrys:Ss->Bool
 |.nil=>true
 |.cons s l=>zxq s && noTrys l
end
mutual
theorem ex_le(h:∀f r w,Γ f r=some w->Γ' f r=some w):∀(s:S) (d:RhoS) (o:Out),zxq s=true->ex Γ s d=some o->ex Γ' s d=some o
 |.asg i e,d,o,_,q=>by
  simp only[ex] at q |-;exact Be (By h e _) (λ_ _ z=>z) q
 |.unp A e,d,o,_,q=>by
  simp only[ex] at q |-;exact Be (By h e _) (λ_ _ z=>z) q
 |.par i j a b,d,o,_,q=>by
  simp only[ex] at q |-;exact Be (λx=>Br (By h a _)) (λ_ _=>Be (λx=>Br (By h b _)) λ_ _ z=>z) q
 |.ret e,d,o,_,q=>by
  simp only[ex] at q |-;exact Br (By h e _) q
 |.retV i,d,o,_,q=>by simp only[ex] at q |-;exact q
 |.iff c a b,d,o,n,q=>by
  simp only[zxq,Zj] at n;simp only[ex,evB] at q |-;exact Be (λx=>Be (λx=>Br (By h c _)) λ_ _ z=>z) (λ_ y=>zkv (exs_le h a d y n.1) (exs_le h b d y n.2)) q
 |.whl c b,d,o,n,q=>by
  simp only[zxq] at n;simp only[ex] at q |-;obtain⟨m,u⟩:=zkm q
  refine zhz (zmz (λd k z=>?_) (λd o z=>exs_le h b d o n z) m d o u);unfold evB at z |-;exact Be (λx=>Br (By h c _)) (λ_ _ z=>z) z
 |.frr t v b,d,o,n,q=>by
  simp only[zxq] at n;simp only[ex] at q |-;exact Be (evI_le h v d) (λp y=>zyu (λd o z=>exs_le h b d o n z) _ _ _) q
 |.tryC f g l i j,d,o,n,q=>by cases n
 |.app i e,d,o,_,q=>by
  simp only[ex] at q |-;exact Be (By h e _) (λ_ _ z=>z) q
 |.pop i,d,o,_,q=>by simp only[ex] at q |-;exact q
 |.clr i,d,o,_,q=>by simp only[ex] at q |-;exact q
 |.seti i k e,d,o,_,q=>by
  simp only[ex] at q |-;exact Be (By h e _) (λ_ _=>Be (λx=>Be (λx=>Br (By h k _)) λ_ _ z=>z) λ_ _ z=>z) q
 |.never,d,o,_,q=>by simp only[ex] at q;cases q
theorem exs_le(h:∀f g w,Γ f g=some w->Γ' f g=some w):∀(l:Ss) (d:RhoS) (o:Out),noTrys l=true->exs Γ l d=some o->exs Γ' l d=some o
 |.nil,d,o,_,q=>by simp only[exs] at q |-;exact q
 |.cons s l,d,o,n,q=>by
  simp only[noTrys,Zj] at n;simp only[exs] at q |-;refine Be (λo z=>ex_le h s d o n.1 z) (λo2 y z=>?_) q;cases o2 with
  |nx e=>exact exs_le h l e y n.2 z
  |rt w=>exact z
end
def tab:List (Nat×(∅))->Nat->∅
 |[],_=>λ_=>none
 |(k,m)::t,n=>if n=k then m else tab t n
theorem yfu:∀(T:List (Nat×(∅))),(∀p∈T,Γ p.1=p.2)->∀f d w,tab T f d=some w->Γ f d=some w
 |[],_,_,_,_,q=>by simp only[tab] at q;cases q
 |(k,m)::t,h,f,d,w,q=>by
  unfold tab at q;by_cases e:f=k
  ·rw[if_pos e] at q;subst e;rw[h (f,m) (.head _)];exact q
  ·rw[if_neg e] at q;exact yfu t (λp g=>h p (.tail _ g)) f d w q
def zbx{b:Ss}{n:Nat}(T:List (Nat×(∅)))(e:∀p∈T,Γ p.1=p.2)(f:noTrys b=true)(d:List D)(w:W)(h:run (tab T) b n d=some w):run Γ b n d=some w:=by
 unfold run at h |-;exact Be (λo=>exs_le (yfu T e) b _ o f) (λ_ _ z=>z) h
def tab_s{k n:Nat}{m:∅}{t:List (Nat×(∅))}(h:n≠k):tab ((k,m)::t) n=tab t n:=if_neg h
end
def cm_lt{a b:Int}:cmpD .lt (.int a) (.int b)=some (decide (a<b)):=rfl
def cm_le{a b:Int}:cmpD .le (.int a) (.int b)=some (decide (a<=b)):=rfl
def cm_gt{a b:Int}:cmpD .gt (.int a) (.int b)=some (decide (b<a)):=rfl
def cm_ge{a b:Int}:cmpD .ge (.int a) (.int b)=some (decide (b<=a)):=rfl
def cm_eq{a b:Int}:cmpD .eq (.int a) (.int b)=some (decide (a=b)):=rfl
def cm_ne{a b:Int}:cmpD .ne (.int a) (.int b)=some (!decide (a=b)):=rfl
def cm_eqB{a b:Bool}:cmpD .eq (.bl a) (.bl b)=some (a == b):=rfl
def cm_neB{a b:Bool}:cmpD .ne (.bl a) (.bl b)=some (!(a == b)):=rfl
def cm_eqT{a b:List D}:cmpD .eq (.tup a) (.tup b)=if (dOkL 49 a && dOkL 49 b)=true then some (eqL a b) else none:=rfl
def cm_neT{a b:List D}:cmpD .ne (.tup a) (.tup b)=if (dOkL 49 a && dOkL 49 b)=true then some (!eqL a b) else none:=by
 show Option.map not (if _ then _ else _)=_;split<;>rfl
def cm_eqL{a b:List D}:cmpD .eq (.lst a) (.lst b)=if (dOkL 49 a && dOkL 49 b)=true then some (eqL a b) else none:=rfl
def ygz{a b:List D}:cmpD .ne (.lst a) (.lst b)=if (dOkL 49 a && dOkL 49 b)=true then some (!eqL a b) else none:=by
 show Option.map not (if _ then _ else _)=_;split<;>rfl
def cm_in{x:D}{l:List D}:cmpD .isin x (.lst l)=if (dOk 50 x && dOkL 49 l)=true then some (l.any λy=>eqD y x) else none:=rfl
def cm_nin{x:D}{l:List D}:cmpD .notin x (.lst l)=if (dOk 50 x && dOkL 49 l)=true then some (!(l.any λy=>eqD y x)) else none:=by
 show Option.map not (if _ then _ else _)=_;split<;>rfl
def cm_isN{a:D}:cmpD .isN a .non=some (zor a):=rfl
def ymt{a:D}:cmpD .notN a .non=some (!zor a):=rfl
end DL
namespace Sf
abbrev gc(a b:Int):Int:=((Int.gcd a b:Nat):Int)
def gc_nn(a b:Int):0<=gc a b:=Yr _
def zdm{a b:Int}(h:b≠0):0<gc a b:=Va.mpr (Int.gcd_pos_of_ne_zero_right a h)
def zqq{g s:Int}:gc s (g%s)=gc g s:=by
 have e:g=g%s+s*(g/s):=by have:=Int.emod_add_mul_ediv g s;omega
 show((Int.gcd s (g%s):Nat):Int)=((Int.gcd g s:Nat):Int);have h:Int.gcd s g=Int.gcd s (g%s):=by
  conv=>lhs;rw[e]
  rw[Int.gcd_add_mul_left_right]
 rw[K9 g s,h]
def zmg{g:Int}(h:0<=g):gc g 0=g:=by
 show((Int.gcd g 0:Nat):Int)=g;rw[Int.gcd_zero];omega
def ygn(a b:Int):gc (if a<0 then -a else a) (if b<0 then -b else b)=gc a b:=by
 show((Int.gcd _ _:Nat):Int)=_;split<;>split<;>simp only[Int.neg_gcd,Int.gcd_neg]
def zvb{p q:Int}(h:∀c,c∣p->c∣q->c∣1):Int.gcd p q=1:=W5.mpr h
def zfl{k m n:Int}(h:Int.gcd k m=1)(d:k∣m*n):k∣n:=by
 have e:=Q3 (n:=k) (m:=m) (k:=n) h;have f:Int.gcd k (m*n)=k.natAbs:=Int.gcd_eq_natAbs_left d;rw[f] at e;exact Int.gcd_eq_natAbs_left_iff_dvd.mp e.symm
def zaj{a b:Int}(h:a∣b)(d:b≠0):a.natAbs<=b.natAbs:=
 Nat.le_of_dvd vB (V8.mpr h)
def zht{a b:Int}(h:0<gc a b):∃x y:Int,a=gc a b*x/\b=gc a b*y/\Int.gcd x y=1:=by
 obtain⟨x,d⟩:=Wl a b
 obtain⟨y,f⟩:=Y0 a b
 refine⟨x,y,d,f,?_⟩
 have g:Int.gcd a b=(gc a b).natAbs*Int.gcd x y:=by
  have e:=Int.gcd_mul_left (gc a b) x y;have i:gc a b*x=a:=d.symm;have j:gc a b*y=b:=f.symm;rw[i,j] at e;exact e
 have l:(gc a b).natAbs=Int.gcd a b:=Yk _;rw[l] at g;have m:0<Int.gcd a b:=Va.mp h;exact(Nat.eq_of_mul_eq_mul_left m (by rw[Nat.mul_one];exact g)).symm
structure Fra(p q:Int):Prop where
 pos:0<q
 co:Int.gcd p q=1
def Fra.cross_dvd{p q N B:Int}(f:Fra p q)(h:p*B=N*q):p∣N/\q∣B:=by
 constructor
 ·refine zfl f.co ⟨B,?_⟩;rw[h,Kc]
 ·refine zfl (k:=q) (m:=p) (by rw[K9];exact f.co) ⟨N,?_⟩;rw[h,Kc]
def Fra.cross_le{p q N B:Int}(f:Fra p q)(d:B≠0)(h:p*B=N*q):p.natAbs<=N.natAbs/\q.natAbs<=B.natAbs:=by
 obtain⟨i,j⟩:=f.cross_dvd h
 refine⟨?_,zaj j d⟩
 by_cases g:N=0
 ·subst g;rw[Int.zero_mul] at h;rcases Vb.mp h with e|e
  ·rw[e];exact Zk _
  ·exact absurd e d
 ·exact zaj i g
def Fra.uniq{p q r s:Int}(f:Fra p q)(g:Fra r s)(h:p*s=r*q):p=r/\q=s:=by
 have d:=(f.cross_dvd h).2;have i:=(g.cross_dvd h.symm).2;have e:q=s:=Int.dvd_antisymm (W4 f.pos) (W4 g.pos) d i;subst e;exact⟨K5 (by have:=f.pos;omega) h,rfl⟩
def by_(t b:Int):Int:=if b<0 then -(gc t b) else gc t b
def low1(t b:Int):Int:=t.fdiv (by_ t b)
def low2(t b:Int):Int:=b.fdiv (by_ t b)
def by_ne{t b:Int}(h:b≠0):by_ t b≠0:=by
 have:=zdm (a:=t) h
 unfold by_;split<;>omega
def zol{t b:Int}(h:b≠0):t=by_ t b*low1 t b/\b=by_ t b*low2 t b/\Fra (low1 t b) (low2 t b):=by
 have i:=zdm (a:=t) h;obtain⟨x,y,r,j,m⟩:=zht i
 have n:=by_ne (t:=t) h;have key:∃z:Int,(z=1\/z = -1)/\by_ t b=gc t b*z/\0<y*z:=by
  by_cases g:b<0
  ·refine⟨-1,.inr rfl,?_,?_⟩
   ·unfold by_;rw[if_pos g];omega
   ·have:y<0:=by
     rw[j] at g;by_cases d:y<0
     ·exact d
     ·exact absurd g (Kn.mpr (Yx (W4 i) (Kn.mp d)))
    omega
  ·refine⟨1,.inl rfl,?_,?_⟩
   ·unfold by_;rw[if_neg g];omega
   ·have:0<y:=by
     by_cases d:0<y
     ·exact d
     ·have:=Ww (W4 i) (Kn.mp d)
      rw[<-j] at this;omega
    omega
 obtain⟨z,o,f,l⟩:=key
 have v:z*z=1:=by rcases o with e|e<;>subst e<;>decide
 have p:t=by_ t b*(x*z):=by
  rw[f];conv=>lhs;rw[r]
  grind
 have q:b=by_ t b*(y*z):=by
  rw[f];conv=>lhs;rw[j]
  grind
 have l1:low1 t b=x*z:=by
  unfold low1;conv=>lhs;arg 1;rw[p]
  exact Zw _ n
 have l2:low2 t b=y*z:=by
  unfold low2;conv=>lhs;arg 1;rw[q]
  exact Zw _ n
 rw[l1,l2];refine⟨p,q,l,?_⟩
 rcases o with e|e<;>subst e
 ·rw[J3,J3];exact m
 ·have s:x * -1 = -x:=by omega
  have u:y * -1 = -y:=by omega
  rw[s,u,Int.neg_gcd,Int.gcd_neg];exact m
def zxy{t b:Int}(h:b≠0):Fra (low1 t b) (low2 t b):=(zol h).2.2
def zxz{t b:Int}(h:b≠0):low1 t b*b=t*low2 t b:=by
 obtain⟨d,e,_⟩:=zol (t:=t) h
 generalize by_ t b=g at d e;generalize low1 t b=x at d e |-;generalize low2 t b=y at d e |-;subst d;subst e;grind
def addT(a b c d:Int):Int:=a*(d.fdiv (gc b d))+c*(b.fdiv (gc b d))
def add1(a b c d:Int):Int:=(addT a b c d).fdiv (gc (addT a b c d) (gc b d))
def add2(a b c d:Int):Int:=b.fdiv (gc b d)*d.fdiv (gc (addT a b c d) (gc b d))
def add_ok{a b c d:Int}(f:Fra a b)(g:Fra c d):Fra (add1 a b c d) (add2 a b c d)/\add1 a b c d*(b*d)=(a*d+c*b)*add2 a b c d:=by
 have W:=f.pos;have X:=g.pos;have u:0<gc b d:=zdm vB;obtain⟨h,e,v,ed,H⟩:=zht u
 have I:0<gc (addT a b c d) (gc b d):=zdm vB;obtain⟨o,l,t,J,w⟩:=zht I
 have p:gc b d≠0:=by omega
 have q:gc (addT a b c d) (gc b d)≠0:=by omega
 have K:b.fdiv (gc b d)=h:=by
  conv=>lhs;arg 1;rw[v]
  exact Zw _ p
 have M:d.fdiv (gc b d)=e:=by
  conv=>lhs;arg 1;rw[ed]
  exact Zw _ p
 have N:addT a b c d=a*e+c*h:=by unfold addT;rw[K,M]
 have O:add1 a b c d=o:=by
  unfold add1;conv=>lhs;arg 1;rw[t]
  exact Zw _ q
 have z:d=gc (addT a b c d) (gc b d)*(l*e):=by
  conv=>lhs;rw[ed]
  rw[<-Ui];conv=>lhs;arg 1;rw[J]
 have P:d.fdiv (gc (addT a b c d) (gc b d))=l*e:=by
  conv=>lhs;arg 1;rw[z]
  exact Zw _ q
 have Q:add2 a b c d=h*(l*e):=by unfold add2;rw[K,P]
 rw[O,Q];generalize gc (addT a b c d) (gc b d)=r at *;generalize gc b d=s at *;rw[N] at t;have R:0<h:=by
  by_cases m:0<h
  ·exact m
  ·have:=Ww (W4 u) (Kn.mp m);omega
 have S:0<e:=by
  by_cases m:0<e
  ·exact m
  ·have:=Ww (W4 u) (Kn.mp m);omega
 have T:0<l:=by
  by_cases m:0<l
  ·exact m
  ·have:=Ww (W4 I) (Kn.mp m);omega
 have U:Int.gcd a h=1:=zvb λk n i=>W5.mp f.co k n (by rw[v];exact Kd i)
 have V:Int.gcd c e=1:=zvb λk n i=>W5.mp g.co k n (by rw[ed];exact Kd i)
 have L:o∣a*e+c*h:=⟨r,by rw[t,Kc]⟩;have A:Int.gcd o h=1:=zvb λk n i=>by
  have B:k∣a*e:=(Int.dvd_add_left (Kd i)).mp (Y6 n L);have C:Int.gcd k e=1:=zvb λj D E=>W5.mp H j (Y6 D i) E
  have F:k∣a:=zfl C (by rw[Kc];exact B);exact W5.mp U k F i
 have G:Int.gcd o e=1:=zvb λk n i=>by
  have B:k∣c*h:=(Int.dvd_add_right (Kd i)).mp (Y6 n L);have C:Int.gcd k h=1:=zvb λj D E=>W5.mp H j E (Y6 D i)
  have F:k∣c:=zfl C (by rw[Kc];exact B);exact W5.mp V k F i
 refine⟨⟨Wk R (Wk T S),?_⟩,?_⟩
 ·rw[Q3 A,Q3 w];exact G
 ·subst v;subst ed;subst J;have:a*(r*l*e)+c*(r*l*h)=r*l*(r*o):=by rw[<-t];grind
  rw[this];grind
end Sf
namespace Sf
def zcp(x:Rat):Fra x.num (x.den:Int):=⟨by have:=x.den_nz;omega,by
 have:=x.reduced
 show Nat.gcd x.num.natAbs ((x.den:Int)).natAbs=1;exact this⟩
def rat_of{p q:Int}(f:Fra p q):(Rat.divInt p q).num=p/\((Rat.divInt p q).den:Int)=q:=by
 have d:=f.pos;refine(zcp (Rat.divInt p q)).uniq f ?_;have e:Rat.divInt (Rat.divInt p q).num ((Rat.divInt p q).den:Int)=Rat.divInt p q:=Yq _;exact(Vn (by have:=(Rat.divInt p q).den_nz;omega) vB).mp e
def zru{x:Rat}{p q:Int}(d:q≠0):x=Rat.divInt p q↔x.num*q=p*(x.den:Int):=by
 conv=>lhs;lhs;rw[<-Yq x]
 exact Vn (by have:=x.den_nz;omega) d
def ykq{t b:Int}(h:b≠0):(Rat.divInt t b).num=low1 t b/\((Rat.divInt t b).den:Int)=low2 t b:=
 (zcp _).uniq (zxy h) (by
  have e:=(zru (x:=Rat.divInt t b) h).mp rfl;have c:=zxz (t:=t) h;have f:=(zxy (t:=t) h).pos;apply K5 h
  grind)
def ynr(x y:Rat):(x+y).num=add1 x.num x.den y.num y.den/\((x+y).den:Int)=add2 x.num x.den y.num y.den:=by
 obtain⟨f,c⟩:=add_ok (zcp x) (zcp y)
 refine(zcp _).uniq f ?_;have d:(x.den:Int)≠0:=by have:=x.den_nz;omega
 have g:(y.den:Int)≠0:=by have:=y.den_nz;omega
 have e:x+y=Rat.divInt (x.num*y.den+y.num*x.den) (x.den*y.den):=by
  conv=>lhs;rw[<-Yq x,<-Yq y]
  exact Kr _ _ d g
 have h:=(zru (x:=x+y) (Ym d g)).mp e;apply K5 (Ym d g)
 grind
def zqi(x y:Rat):x*y=Rat.divInt (x.num*y.num) (x.den*y.den):=by
 conv=>lhs;rw[<-Yq x,<-Yq y]
 exact Jp _ _
def zza{x y:Rat}(h:y≠0):x/y=Rat.divInt (x.num*y.den) (x.den*y.num):=by
 conv=>lhs;rw[<-Yq x,<-Yq y]
 rw[Kl,Rat.inv_divInt,Jp]
structure Sz(n:Nat)(x:Rat):Prop where
 t:x.num.natAbs<2^n
 b:x.den<2^n
def Bo{m n:Nat}(h:m<=n):2^m<=2^n:=Nat.pow_le_pow_right vA h
def Sz.mono{m n:Nat}{x:Rat}(h:Sz m x)(k:m<=n):Sz n x:=⟨Zf h.t (Bo k),Zf h.b (Bo k)⟩
def B9{a b m n:Nat}(h:a<2^m)(k:b<2^n):a*b<2^(m+n):=by
 rw[Nat.pow_add];exact Nat.mul_lt_mul'' h k
def zei{x:Rat}{p q:Int}{n:Nat}(d:q≠0)(e:x=Rat.divInt p q)(f:p.natAbs<2^n)(g:q.natAbs<2^n):Sz n x:=by
 obtain⟨a,b⟩:=(zcp x).cross_le d ((zru d).mp e)
 exact⟨Yw a f,by have:=b;omega⟩
def Sz.mul{m n:Nat}{x y:Rat}(d:Sz m x)(e:Sz n y):Sz (m+n) (x*y):=by
 have a:(x.den:Int)≠0:=by have:=x.den_nz;omega
 have b:(y.den:Int)≠0:=by have:=y.den_nz;omega
 refine zei (Ym a b) (zqi x y) ?_ ?_
 ·rw[Zu];exact B9 d.t e.t
 ·rw[Zu];exact B9 d.b e.b
def Sz.add{m n:Nat}{x y:Rat}(d:Sz m x)(f:Sz n y):Sz (m+n+1) (x+y):=by
 have a:(x.den:Int)≠0:=by have:=x.den_nz;omega
 have b:(y.den:Int)≠0:=by have:=y.den_nz;omega
 have e:x+y=Rat.divInt (x.num*y.den+y.num*x.den) (x.den*y.den):=by
  conv=>lhs;rw[<-Yq x,<-Yq y]
  exact Kr _ _ a b
 have i:=B9 d.t f.b;have g:=B9 f.t d.b;rw[V5 n m] at g;have t3:=B9 d.b f.b;have j:2^(m+n+1)=2^(m+n)+2^(m+n):=by rw[V3];omega
 refine zei (Ym a b) e ?_ ?_
 ·have h:=Ba (x.num*y.den) (y.num*x.den);rw[Zu,Zu,Yk,Yk] at h;omega
 ·rw[Zu,Yk,Yk];omega
def Sz.neg{n:Nat}{x:Rat}(d:Sz n x):Sz n (-x):=⟨by show(-x.num).natAbs<_;rw[Kq];exact d.t,d.b⟩
def Sz.sub{m n:Nat}{x y:Rat}(d:Sz m x)(e:Sz n y):Sz (m+n+1) (x-y):=by
 rw[Ke];exact d.add e.neg
def Sz.div{m n:Nat}{x y:Rat}(d:Sz m x)(e:Sz n y)(h:y≠0):Sz (m+n) (x/y):=by
 have a:(x.den:Int)≠0:=by have:=x.den_nz;omega
 have b:y.num≠0:=λz=>h (Rat.num_eq_zero.mp z)
 refine zei (Ym a b) (zza h) ?_ ?_
 ·rw[Zu];exact B9 d.t e.b
 ·rw[Zu];exact B9 d.b e.t
end Sf
namespace DL
def zfs:Ss:=#v[.asg 2 (.bi .abs #v[.var 0]),.asg 3 (.bi .abs #v[.var 1]),.whl (.cmp .ne (.var 3) (.int 0)) #v[.asg 4 (.bin .mod (.var 2) (.var 3)),.asg 2 (.var 3),.asg 3 (.var 4)],.retV 2]
def zmw:Ss:=#v[.iff (.cmp .eq (.var 1) (.int 0)) #v[.never] .nil,.asg 2 (.call 0 #v[.var 0,.var 1]),.iff (.cmp .lt (.var 1) (.int 0)) #v[.asg 2 (.neg (.var 2))] .nil,.ret (.tup #v[.bin .fdiv (.var 0) (.var 2),.bin .fdiv (.var 1) (.var 2)])]
def zdc:Ss:=#v[.ret (.and (.isi (.var 0) .int) (.not (.isi (.var 0) .bool)))]
def ztk:Ss:=#v[.asg 2 (.call 0 #v[.ix (.var 0) (.int 1),.ix (.var 1) (.int 1)]),.asg 3 (.bin .add (.bin .mul (.ix (.var 0) (.int 0)) (.bin .fdiv (.ix (.var 1) (.int 1)) (.var 2))) (.bin .mul (.ix (.var 1) (.int 0)) (.bin .fdiv (.ix (.var 0) (.int 1)) (.var 2)))),.asg 4 (.call 0 #v[.var 3,.var 2]),.ret (.tup #v[.bin .fdiv (.var 3) (.var 4),.bin .mul (.bin .fdiv (.ix (.var 0) (.int 1)) (.var 2)) (.bin .fdiv (.ix (.var 1) (.int 1)) (.var 4))])]
def zmx:Ss:=#v[.ret (.call 9 #v[.var 0,.tup #v[.neg (.ix (.var 1) (.int 0)),.ix (.var 1) (.int 1)]])]
def zmv:Ss:=#v[.ret (.call 1 #v[.bin .mul (.ix (.var 0) (.int 0)) (.ix (.var 1) (.int 0)),.bin .mul (.ix (.var 0) (.int 1)) (.ix (.var 1) (.int 1))])]
def zca:Ss:=#v[.asg 0 (.bi .abs #v[.var 0]),.asg 1 (.bi .abs #v[.var 1]),.whl (.cmp .gt (.var 1) (.int 0)) #v[.par 0 1 (.var 1) (.bin .mod (.var 0) (.var 1))],.retV 0]
def zav:Ss:=#v[.iff (.or (.not (.isi (.var 0) .tuple)) (.or (.cmp .ne (.bi .len #v[.var 0]) (.int 2)) (.or (.not (.call 3 #v[.ix (.var 0) (.int 0)])) (.not (.call 3 #v[.ix (.var 0) (.int 1)]))))) #v[.ret (.bl false)] .nil,.ret (.and (.cmp .gt (.ix (.var 0) (.int 1)) (.int 0)) (.cmp .eq (.call 12 #v[.ix (.var 0) (.int 0),.ix (.var 0) (.int 1)]) (.int 1)))]
def ztl:Ss:=#v[.ret (.call 1 #v[.bin .mul (.ix (.var 0) (.int 0)) (.ix (.var 1) (.int 1)),.bin .mul (.ix (.var 0) (.int 1)) (.ix (.var 1) (.int 0))])]
def zer:Ss:=#v[.ret (.cmp .lt (.bin .mul (.ix (.var 0) (.int 0)) (.ix (.var 1) (.int 1))) (.bin .mul (.ix (.var 1) (.int 0)) (.ix (.var 0) (.int 1))))]
def zcb:Ss:=#v[.ret (.comp (.call 42 #v[.var 1,.var 2]) (.tup [1,2]) (.seq (.call 41 #v[.var 0])) 3 [] .non)]
def zjs:Ss:=#v[.ret (.fm .zip #v[.var 0,.bin .add (.sl (.var 0) (.som (.int 1)) .non) (.sl (.var 0) .non (.som (.int 1)))])]
def zaz:Ss:=#v[.asg 2 (.call 10 #v[.ix (.var 0) (.int 1),.ix (.var 1) (.int 1)]),.asg 3 (.call 10 #v[.ix (.var 1) (.int 0),.ix (.var 0) (.int 0)]),.asg 4 (.call 9 #v[.call 11 #v[.var 2,.ix (.var 0) (.int 0)],.call 11 #v[.var 3,.ix (.var 0) (.int 1)]]),.ret (.call 43 #v[.tup #v[.var 2,.var 3,.var 4]])]
def zan:Ss:=#v[.asg 1 (.int 1),.frr (.name 2) (.seqV 0) #v[.asg 1 (.bin .mul (.var 1) (.ix (.var 2) (.int 1)))],.asg 3 (.comp (.bin .mul (.ix (.var 1) (.int 0)) (.bin .fdiv (.var 2) (.ix (.var 1) (.int 1)))) (.name 1) (.seqV 0) 2 [1] .non),.asg 4 (.int 0),.frr (.name 5) (.seqV 3) #v[.asg 4 (.call 0 #v[.var 4,.var 5])],.ret (.fm .tupl #v[.comp (.bin .fdiv (.var 1) (.var 2)) (.name 1) (.seqV 3) 2 [4] .non])]
def zjt:Ss:=#v[.ret (.call 9 #v[.call 11 #v[.tup #v[.var 0,.int 1],.ix (.var 2) (.int 0)],.call 11 #v[.tup #v[.var 1,.int 1],.ix (.var 2) (.int 1)]])]
def zgh:Ss:=#v[.asg 3 (.call 50 #v[.var 1,.var 2,.ix (.var 0) (.int 0)]),.frr (.name 4) (.seq (.sl (.var 0) (.som (.int 1)) .non)) #v[.asg 5 (.call 50 #v[.var 1,.var 2,.var 4]),.iff (.call 21 #v[.var 3,.var 5]) #v[.asg 3 (.var 5)] .nil],.retV 3]
def zju:Ss:=#v[.ret (.bin .sub (.bin .mul (.ix (.var 0) (.int 0)) (.ix (.var 1) (.int 1))) (.bin .mul (.ix (.var 0) (.int 1)) (.ix (.var 1) (.int 0))))]
def o_bounds_of:It'×E×Es×Es:=((.enum (.call 40 #v[.var 0])),(.call 10 #v[.tup #v[.int 0,.int 1],.call 59 #v[.var 1,.neg (.ix (.var 4) (.int 0)),.neg (.ix (.var 4) (.int 1))]]),#v[.call 92 #v[.var 2,.var 6]],#v[.bi .len #v[.var 2]])
def zdp:Ss:=#v[.ret (.tup #v[.ix (.var 0) (.bin .sub (.var 1) (.int 1)),.ix (.var 0) (.var 1),.ix (.var 0) (.bin .mod (.bin .add (.var 1) (.int 1)) (.bi .len #v[.var 0]))])]
def zbu:Ss:=#v[.asg 1 (.fld (.ix (.var 0) (.int 0)) 1),.asg 2 (.fld (.ix (.var 0) (.int 1)) 1),.asg 3 (.fld (.ix (.var 0) (.int 2)) 1),.ret (.lst #v[.call 81 #v[.var 2,.var 3],.call 81 #v[.var 3,.var 1],.call 81 #v[.var 1,.var 2]])]
def o_set_closing:Ss×E×Nat:=(#v[.asg 1 (.int 1),.frr (.name 2) (.seqV 0) #v[.asg 1 (.bin .mul (.var 1) (.ix (.fld (.var 2) 2) (.int 1)))],.asg 3 (.int 0),.asg 4 (.int 0),.frr (.tup [5,2]) (.zip (.call 93 #v[.var 0]) (.var 0)) #v[.asg 3 (.bin .sub (.var 3) (.bin .mul (.bin .mul (.var 5) (.ix (.fld (.var 2) 1) (.int 2))) (.var 1))),.asg 4 (.bin .sub (.var 4) (.bin .mul (.bin .mul (.var 5) (.ix (.fld (.var 2) 2) (.int 0))) (.bin .fdiv (.var 1) (.ix (.fld (.var 2) 2) (.int 1)))))],.asg 6 (.ix (.var 0) (.int 1))],(.ife (.cmp .gt (.var 4) (.int 0)) (.tup #v[.var 3,.var 4]) .non),6)
def zcx:Ss:=#v[.asg 1 .non,.frr (.name 2) (.range1 (.bi .len #v[.var 0])) #v[.asg 3 (.fld (.ix (.var 0) (.var 2)) 3),.iff (.and (.cmp .notN (.var 3) .non) (.or (.cmp .isN (.var 1) .non) (.call 21 #v[.var 3,.fld (.ix (.var 0) (.var 1)) 3]))) #v[.asg 1 (.var 2)] .nil],.retV 1]
def zcw:Ss:=#v[.ret (.cmp .ge (.ix (.call 93 #v[.call 92 #v[.var 0,.var 1]]) (.int 1)) (.int 0))]
def o_drop:Es×Es:=(#v[.call 92 #v[.var 0,.bin .sub (.var 1) (.int 1)]],#v[.call 92 #v[.var 0,.bin .mod (.var 1) (.bi .len #v[.var 0])]])
def zcu:Ss:=#v[.asg 3 (.call 99 #v[.var 0,.var 2]),.asg 4 (.call 99 #v[.var 1,.var 2]),.asg 5 (.tup #v[.call 81 #v[.fld (.var 0) 1,.fld (.var 1) 1],.int 1]),.asg 6 (.call 10 #v[.call 11 #v[.tup #v[.ix (.fld (.var 1) 1) (.int 1),.int 1],.var 3],.call 11 #v[.tup #v[.ix (.fld (.var 0) 1) (.int 1),.int 1],.var 4]]),.asg 7 (.call 10 #v[.call 11 #v[.tup #v[.ix (.fld (.var 0) 1) (.int 0),.int 1],.var 4],.call 11 #v[.tup #v[.ix (.fld (.var 1) 1) (.int 0),.int 1],.var 3]]),.ret (.tup #v[.call 20 #v[.var 6,.var 5],.call 20 #v[.var 7,.var 5]])]
def zdq:Ss:=#v[.ret (.call 10 #v[.tup #v[.ix (.fld (.var 0) 1) (.int 2),.int 1],.call 11 #v[.var 1,.fld (.var 0) 2]])]
def o_fit:E×E×Ss:=((.call 95 #v[.var 2]),(.not (.call 96 #v[.var 2,.var 3])),#v[.asg 4 (.call 92 #v[.var 2,.var 3]),.asg 5 (.fld (.ix (.var 2) (.var 3)) 3),.asg 6 (.call 1 #v[.ix (.var 5) (.int 0),.ix (.var 5) (.int 1)]),.asg 7 (.call 126 #v[.var 4]),.asg 8 (.comp (.var 1) (.tup [1,2]) (.seqV 7) 3 [] .non),.asg 9 (.comp (.var 2) (.tup [1,2]) (.seqV 7) 3 [] .non),.ret (.tup #v[.var 6,.call 98 #v[.ix (.var 4) (.int 0),.ix (.var 4) (.int 1),.var 6],.var 8,.var 9])])
def zbn:Ss:=#v[.asg 1 (.call 93 #v[.var 0]),.asg 2 (.int 0),.frr (.name 3) (.seqV 1) #v[.asg 2 (.call 0 #v[.var 2,.var 3])],.asg 4 (.comp (.tup #v[.fld (.var 1) 0,.bin .fdiv (.var 2) (.var 3)]) (.tup [1,2]) (.zip (.var 0) (.var 1)) 3 [2] (.som (.cmp .ne (.var 2) (.int 0)))),.ret (.bi .srt #v[.var 4])]
def zbh:Ss:=#v[.asg 3 (.comp (.int 0) (.name 1) (.range1 (.var 1)) 2 [] .non),.frr (.name 2) (.range1 (.bi .max #v[.var 1,.bi .min #v[.bi .len #v[.var 0],.int 63]])) #v[.asg 4 (.int 0),.iff (.cmp .gt (.bi .len #v[.var 0]) (.int 0)) #v[.asg 4 (.bin .mod (.ix (.var 0) (.bin .mod (.var 2) (.bi .min #v[.bi .len #v[.var 0],.int 63]))) (.bin .add (.bin .pow (.int 10) (.int 60)) (.int 7)))] .nil,.asg 5 (.bin .mod (.var 2) (.var 1)),.seti 3 (.var 5) (.bin .mod (.bin .add (.bin .add (.bin .mul (.ix (.var 3) (.var 5)) (.int 48271)) (.var 4)) (.bin .mul (.var 2) (.var 2))) (.bin .add (.bin .pow (.int 10) (.int 60)) (.int 7)))],.retV 3]
def zbq:Ss:=#v[.asg 2 (.call 12 #v[.var 0,.var 1]),.ret (.tup #v[.bin .fdiv (.var 0) (.var 2),.bin .fdiv (.var 1) (.var 2)])]
def zap:Ss:=#v[.asg 1 (.lst #v[.bin .sub (.bin .mod (.ix (.var 0) (.int 1)) (.int 3)) (.int 3)]),.frr (.name 2) (.range1 (.bin .add (.int 1) (.bin .mod (.ix (.var 0) (.int 2)) (.int 2)))) #v[.app 1 (.bin .add (.bin .add (.ix (.var 1) (.neg (.int 1))) (.int 1)) (.bin .mod (.bin .fdiv (.ix (.var 0) (.int 2)) (.bin .add (.int 2) (.bin .mul (.int 3) (.var 2)))) (.int 3)))],.asg 3 (.lst #v[.bin .sub (.bin .mod (.ix (.var 0) (.int 3)) (.int 4)) (.int 3)]),.frr (.name 2) (.range1 (.bin .mod (.bin .fdiv (.ix (.var 0) (.int 3)) (.int 4)) (.int 3))) #v[.app 3 (.bin .add (.bin .add (.ix (.var 3) (.neg (.int 1))) (.int 1)) (.bin .mod (.bin .fdiv (.ix (.var 0) (.int 4)) (.bin .add (.int 1) (.bin .mul (.int 3) (.var 2)))) (.int 3)))],.asg 4 (.bin .add (.bin .add (.bin .mul (.int 2) (.bi .max #v[.comp (.bin .mul (.var 1) (.var 1)) (.name 1) (.seq (.bin .add (.var 1) (.var 3))) 2 [] .non])) (.int 1)) (.bin .mod (.bin .fdiv (.ix (.var 0) (.int 4)) (.int 32)) (.int 9))),.ret (.bin .add (.comp (.tup #v[.var 1,.bin .mul (.var 1) (.var 1)]) (.name 1) (.seqV 1) 2 [] .non) (.comp (.tup #v[.var 1,.bin .sub (.var 2) (.bin .mul (.var 1) (.var 1))]) (.name 1) (.rev (.var 3)) 2 [4] .non))]
def zao:Ss:=#v[.asg 1 (.tup #v[.bin .add (.int 1) (.bin .mod (.ix (.var 0) (.int 1)) (.int 5)),.bin .sub (.bin .mod (.ix (.var 0) (.int 2)) (.int 7)) (.int 3)]),.asg 2 (.tup #v[.bin .sub (.int 0) (.bin .mod (.ix (.var 0) (.int 3)) (.int 4)),.bin .add (.int 1) (.bin .mod (.ix (.var 0) (.int 4)) (.int 5))]),.iff (.cmp .le (.bin .mul (.ix (.var 1) (.int 0)) (.ix (.var 2) (.int 1))) (.bin .mul (.ix (.var 1) (.int 1)) (.ix (.var 2) (.int 0)))) #v[.asg 2 (.tup #v[.ix (.var 2) (.int 0),.bin .add (.ix (.var 2) (.int 1)) (.int 10)])] .nil,.asg 3 (.tup #v[.bin .add (.ix (.var 1) (.int 0)) (.ix (.var 2) (.int 0)),.bin .add (.ix (.var 1) (.int 1)) (.ix (.var 2) (.int 1))]),.asg 4 (.bin .mod (.ix (.var 0) (.int 0)) (.int 5)),.iff (.cmp .eq (.var 4) (.int 2)) #v[.ret (.lst #v[.tup #v[.int 0,.int 0],.var 1,.var 3,.var 2])] .nil,.iff (.cmp .eq (.var 4) (.int 3)) #v[.ret (.lst #v[.tup #v[.int 0,.int 0],.var 1,.var 2])] .nil,.iff (.cmp .eq (.var 4) (.int 4)) #v[.asg 5 (.tup #v[.bin .add (.ix (.var 1) (.int 0)) (.ix (.var 3) (.int 0)),.bin .add (.ix (.var 1) (.int 1)) (.ix (.var 3) (.int 1))]),.asg 6 (.tup #v[.bin .add (.ix (.var 2) (.int 0)) (.ix (.var 3) (.int 0)),.bin .add (.ix (.var 2) (.int 1)) (.ix (.var 3) (.int 1))]),.ret (.lst #v[.tup #v[.int 0,.int 0],.var 1,.var 5,.tup #v[.bin .mul (.int 2) (.ix (.var 3) (.int 0)),.bin .mul (.int 2) (.ix (.var 3) (.int 1))],.var 6,.var 2])] .nil,.ret (.call 105 #v[.var 0])]
def zaf:Ss:=#v[.asg 1 (.call 46 #v[.var 0]),.asg 2 (.ix (.lst #v[.int 1,.bin .add (.int 1) (.bin .mod (.ix (.var 0) (.int 5)) (.bin .pow (.int 10) (.int 9)))]) (.bin .mod (.bin .fdiv (.ix (.var 0) (.int 0)) (.int 5)) (.int 2))),.asg 3 (.ix (.lst #v[.int 10,.bin .pow (.int 10) (.int 18)]) (.bin .mod (.bin .fdiv (.ix (.var 0) (.int 0)) (.int 10)) (.int 2))),.asg 4 (.ix (.lst #v[.int 1,.bin .add (.int 1) (.bin .mod (.ix (.var 0) (.int 5)) (.int 6))]) (.bin .mod (.bin .fdiv (.ix (.var 0) (.int 0)) (.int 20)) (.int 2))),.asg 5 (.idx (.var 1) (.bi .min #v[.var 1])),.asg 6 (.lst .nil),.frr (.tup [7,8]) (.seq (.bin .add (.sl (.var 1) (.som (.var 5)) .non) (.sl (.var 1) .non (.som (.var 5))))) #v[.asg 9 (.call 103 #v[.bin .add (.bin .mul (.var 7) (.var 2)) (.bin .mod (.ix (.var 0) (.int 6)) (.var 3)),.var 4]),.app 6 (.tup #v[.var 9,.call 103 #v[.bin .add (.bin .mul (.var 8) (.var 2)) (.bin .mod (.ix (.var 0) (.int 7)) (.var 3)),.var 4]])],.retV 6]
def zdy:Ss:=#v[.ret (.call 103 #v[.bin .add (.bin .mul (.ix (.var 0) (.int 0)) (.ix (.var 1) (.int 1))) (.bin .mul (.ix (.var 1) (.int 0)) (.ix (.var 0) (.int 1))),.bin .mul (.ix (.var 0) (.int 1)) (.ix (.var 1) (.int 1))])]
def zas:Ss:=#v[.ret (.call 103 #v[.bin .mul (.ix (.var 0) (.int 0)) (.ix (.var 1) (.int 0)),.bin .mul (.ix (.var 0) (.int 1)) (.ix (.var 1) (.int 1))])]
def zdz:Ss:=#v[.ret (.cmp .lt (.bin .mul (.ix (.var 0) (.int 0)) (.ix (.var 1) (.int 1))) (.bin .mul (.ix (.var 1) (.int 0)) (.ix (.var 0) (.int 1))))]
def zaa:Ss:=#v[.asg 3 (.call 108 #v[.ix (.var 1) (.int 0),.tup #v[.bin .sub (.int 0) (.ix (.ix (.var 0) (.int 0)) (.int 0)),.ix (.ix (.var 0) (.int 0)) (.int 1)]]),.asg 4 (.call 108 #v[.ix (.var 1) (.int 1),.tup #v[.bin .sub (.int 0) (.ix (.ix (.var 0) (.int 1)) (.int 0)),.ix (.ix (.var 0) (.int 1)) (.int 1)]]),.asg 5 (.call 108 #v[.ix (.var 2) (.int 0),.tup #v[.bin .sub (.int 0) (.ix (.ix (.var 0) (.int 0)) (.int 0)),.ix (.ix (.var 0) (.int 0)) (.int 1)]]),.asg 6 (.call 108 #v[.ix (.var 2) (.int 1),.tup #v[.bin .sub (.int 0) (.ix (.ix (.var 0) (.int 1)) (.int 0)),.ix (.ix (.var 0) (.int 1)) (.int 1)]]),.asg 7 (.call 74 #v[.var 3,.var 6]),.asg 8 (.call 74 #v[.var 4,.var 5]),.ret (.bin .sub (.bin .mul (.ix (.var 7) (.int 0)) (.ix (.var 8) (.int 1))) (.bin .mul (.ix (.var 8) (.int 0)) (.ix (.var 7) (.int 1))))]
def zcv:Ss:=#v[.frr (.name 2) (.range1 (.bi .len #v[.var 0])) #v[.iff (.cmp .lt (.call 45 #v[.ix (.var 0) (.bin .sub (.var 2) (.int 1)),.ix (.var 0) (.var 2),.var 1]) (.int 0)) #v[.ret (.bl false)] .nil],.ret (.bl true)]
def zag:Ss:=#v[.asg 3 (.lst .nil),.frr (.tup [4,5]) (.seqV 0) #v[.asg 6 (.call 108 #v[.call 74 #v[.var 4,.var 1],.ix (.var 2) (.int 0)]),.app 3 (.tup #v[.var 6,.call 108 #v[.call 74 #v[.var 5,.var 1],.ix (.var 2) (.int 1)]])],.retV 3]
def zau:Ss:=#v[.iff (.or (.not (.isi (.var 0) .tuple)) (.cmp .ne (.bi .len #v[.var 0]) (.int 2))) #v[.ret (.bl false)] .nil,.ret (.and (.call 14 #v[.ix (.var 0) (.int 0)]) (.call 14 #v[.ix (.var 0) (.int 1)]))]
def zbo:Ss:=#v[.asg 1 (.lst .nil),.frr (.name 2) (.range1 (.bi .len #v[.var 0])) #v[.asg 3 (.ix (.var 0) (.var 2)),.asg 4 (.ix (.var 0) (.bin .mod (.bin .add (.var 2) (.int 1)) (.bi .len #v[.var 0]))),.asg 5 (.call 108 #v[.ix (.var 4) (.int 0),.tup #v[.bin .sub (.int 0) (.ix (.ix (.var 3) (.int 0)) (.int 0)),.ix (.ix (.var 3) (.int 0)) (.int 1)]]),.asg 6 (.call 108 #v[.ix (.var 4) (.int 1),.tup #v[.bin .sub (.int 0) (.ix (.ix (.var 3) (.int 1)) (.int 0)),.ix (.ix (.var 3) (.int 1)) (.int 1)]]),.asg 7 (.bin .sub (.int 0) (.bin .mul (.ix (.var 6) (.int 0)) (.ix (.var 5) (.int 1)))),.asg 8 (.bin .mul (.ix (.var 5) (.int 0)) (.ix (.var 6) (.int 1))),.asg 9 (.call 12 #v[.var 7,.var 8]),.asg 7 (.bin .fdiv (.var 7) (.var 9)),.asg 8 (.bin .fdiv (.var 8) (.var 9)),.asg 10 (.call 108 #v[.call 74 #v[.tup #v[.var 7,.int 1],.ix (.var 3) (.int 0)],.call 74 #v[.tup #v[.var 8,.int 1],.ix (.var 3) (.int 1)]]),.app 1 (.tup #v[.bin .mul (.var 7) (.ix (.var 10) (.int 1)),.bin .mul (.var 8) (.ix (.var 10) (.int 1)),.ix (.var 10) (.int 0)])],.retV 1]
def zah:Ss:=#v[.asg 3 .non,.frr (.tup [4,5]) (.seqV 0) #v[.asg 6 (.call 108 #v[.call 74 #v[.tup #v[.var 1,.int 1],.var 4],.call 74 #v[.tup #v[.var 2,.int 1],.var 5]]),.iff (.or (.cmp .isN (.var 3) .non) (.call 110 #v[.var 6,.var 3])) #v[.asg 3 (.var 6)] .nil],.retV 3]
def zbp:Ss:=#v[.unp [3,4,5,6] (.var 0),.asg 7 (.call 128 #v[.var 1]),.iff (.or (.not (.isi (.var 5) .list)) (.or (.not (.isi (.var 6) .list)) (.cmp .ne (.bi .len #v[.var 5]) (.bi .len #v[.var 6])))) #v[.ret (.bl false)] .nil,.iff (.cmp .notin (.bi .len #v[.var 5]) (.lst #v[.int 2,.int 3])) #v[.ret (.bl false)] .nil,.asg 8 (.lst #v[.int 0,.int 0,.int 0]),.asg 9 (.tup #v[.int 0,.int 1]),.frr (.name 10) (.range1 (.bi .len #v[.var 5])) #v[.iff (.or (.not (.call 3 #v[.ix (.var 5) (.var 10)])) (.or (.not (.call 3 #v[.ix (.var 6) (.var 10)])) (.cmp .lt (.ix (.var 6) (.var 10)) (.int 1)))) #v[.ret (.bl false)] .nil,.iff (.or (.cmp .lt (.ix (.var 5) (.var 10)) (.int 0)) (.or (.cmp .ge (.ix (.var 5) (.var 10)) (.bi .len #v[.var 7])) (.and (.cmp .gt (.var 10) (.int 0)) (.cmp .ge (.ix (.var 5) (.bin .sub (.var 10) (.int 1))) (.ix (.var 5) (.var 10)))))) #v[.ret (.bl false)] .nil,.asg 11 (.ix (.var 7) (.ix (.var 5) (.var 10))),.frr (.name 12) (.range1 (.int 3)) #v[.seti 8 (.var 12) (.bin .add (.ix (.var 8) (.var 12)) (.bin .mul (.ix (.var 6) (.var 10)) (.ix (.var 11) (.var 12))))],.asg 9 (.call 108 #v[.var 9,.call 74 #v[.tup #v[.ix (.var 6) (.var 10),.int 1],.call 84 #v[.var 2,.ix (.var 11) (.int 0),.ix (.var 11) (.int 1)]]])],.ret (.and (.cmp .eq (.ix (.var 8) (.int 0)) (.int 0)) (.and (.cmp .eq (.ix (.var 8) (.int 1)) (.int 0)) (.cmp .eq (.call 74 #v[.var 3,.var 9]) (.tup #v[.ix (.var 8) (.int 2),.int 1]))))]
def zbv:Ss:=#v[.asg 1 (.call 102 #v[.var 0,.int 16]),.asg 2 (.call 47 #v[.var 1]),.asg 3 (.call 47 #v[.sl (.var 1) (.som (.int 8)) .non]),.asg 4 (.lst #v[.lcp (.var 2),.lcp (.var 3)]),.asg 5 (.call 125 #v[.ix (.var 4) (.int 0),.ix (.var 4) (.int 1)]),.iff (.or (.not (.isi (.var 5) .tuple)) (.or (.cmp .ne (.bi .len #v[.var 5]) (.int 4)) (.cmp .ne (.var 4) (.lst #v[.var 2,.var 3])))) #v[.ret (.bl false)] .nil,.iff (.or (.not (.call 14 #v[.ix (.var 5) (.int 0)])) (.or (.cmp .le (.ix (.ix (.var 5) (.int 0)) (.int 0)) (.int 0)) (.not (.call 114 #v[.ix (.var 5) (.int 1)])))) #v[.ret (.bl false)] .nil,.frr (.name 6) (.seq (.call 113 #v[.var 3,.ix (.var 5) (.int 0),.ix (.var 5) (.int 1)])) #v[.iff (.not (.call 112 #v[.var 2,.var 6])) #v[.ret (.bl false)] .nil],.ret (.call 130 #v[.var 5,.var 2,.var 3])]
end DL
namespace Hu
end Hu
namespace DL
open PySem L2 PyProof.Rows
section
variable{X:Cx}{c:TC}{Γ:Nat->∅}
def tPre(K:vE)(f g:Hp)(j e:RhoS)(u:TS):TS:=λD l H=>∃F,SR K f g F H l j/\∀d h i,Same F i->SR K f g i h d e->u D d h
theorem yfz(r:XC X c Γ){f:List Stmt}{u:TS}(t:PSs X f u)(j n:Hp):∀(v:List Stmt) (m:Nat) (g:Ss) (i d:RhoS),trSs m c v=some g->exs Γ g i=some (.nx d)->PSs X (v++f) (tPre X.K j n i d u)
 |[],0,_,_,_,h,_=>by simp only[trSs] at h;cases h
 |_::_,0,_,_,_,h,_=>by simp only[trSs] at h;cases h
 |[],m+1,g,i,d,h,e=>by
  simp only[trSs] at h;cases h;simp only[exs] at e;cases e;exact PSs.mono t λD z H ⟨F,S,k⟩=>k z H F (Same.refl _) S
 |s::l,m+1,g,i,d,h,e=>by
  simp only[trSs] at h;obtain⟨Q,A,h⟩:=Za.mp h
  obtain⟨B,C,h⟩:=Zb.mp h
  subst h;simp only[exs] at e;obtain⟨o,E,e⟩:=Za.mp e
  cases o with
  |rt w=>cases e
  |nx p=>
   have a:=(zwa r m).1 _ _ _ _ A E j n;have b:=yfz r t j n l m B p d C e;exact PSs.mono (zab a b) λD z H ⟨F,S,k⟩=>⟨F,S,λG R I J L=>⟨I,L,λq M N O P=>k q M N (J.trans O) P⟩⟩
end
def BoAt(K:vE)(F H:Hp)(a:Addr)(l:List D):Prop:=F a=none/\∃C h d e f g,PySem.W.nsIn K mainGlobals "Bound" = some (some (.ref C))/\H a=some (.ins C h [("place",d),("side",e),("least",f),("closing",g)])/\DenL K F l [d,e,f,g]
structure Obs(K:vE)(F H:Hp)(L:Addr)(os:List (Addr×List D)):Prop where
 hL:H L=some (.lst (os.map λo=>.ref o.1))
 fL:F L=none
 ob:∀o∈os,BoAt K F H o.1 o.2
 nd:(os.map (·.1)).Nodup
def Tr(L:Addr)(d:List (Addr×List D))(b:Addr):Prop:=b=L\/b∈d.map (·.1)
open Classical in
def snap(F H:Hp)(L:Addr)(d:List (Addr×List D)):Hp:=λb=>if Tr L d b then H b else F b
open Classical in
def bare(F:Hp)(L:Addr)(d:List (Addr×List D)):Hp:=λb=>if Tr L d b then none else F b
def dOs(d:List (Addr×List D)):List D:=d.map λo=>.obj o.1 o.2
section
variable{K:vE}{F H:Hp}{L:Addr}{os:List (Addr×List D)}
theorem Obs.none(O:Obs K F H L os){b:Addr}(t:Tr L os b):F b=none:=by
 rcases t with t|t
 ·rw[t];exact O.fL
 ·obtain⟨o,d,e⟩:=Z5.mp t
  rw[<-e];exact(O.ob o d).1
def Obs.same(O:Obs K F H L os):Same F (snap F H L os):=λb o e=>by
 have d:¬Tr L os b:=λt=>by rw[O.none t] at e;cases e
 unfold snap;rw[if_neg d];exact e
def ybq(s:Same F H):Same (snap F H L os) H:=λb o e=>by
 unfold snap at e;by_cases t:Tr L os b
 ·rw[if_pos t] at e;exact e
 ·rw[if_neg t] at e;exact s b o e
def zij{b:Addr}(t:Tr L os b):snap F H L os b=H b:=by unfold snap;rw[if_pos t]
def Obs.denO(O:Obs K F H L os){o:Addr×List D}(e:o∈os):Den K (snap F H L os) (.obj o.1 o.2) (.ref o.1):=by
 obtain⟨_,C,l,f,g,i,j,c,h,d⟩:=O.ob o e
 have t:Tr L os o.1:=.inr (We e);exact Den.obj_mk (xs:=[f,g,i,j]) c ((zij t).trans h) rfl (d.mono O.same)
theorem zzd{G:Hp}:∀{l:List (Addr×List D)},(∀o∈l,Den K G (.obj o.1 o.2) (.ref o.1))->DenL K G (dOs l) (l.map λo=>.ref o.1)
 |[],_=>DenL.nil
 |o::l,h=>DenL.cons (h o Wi) (zzd λp d=>h p (Yv _ d))
def Obs.den(O:Obs K F H L os):Den K (snap F H L os) (.lst (dOs os)) (.ref L):=
 Den.lst_mk (SqL.of ((zij (.inl rfl)).trans O.hL)) (zzd λo d=>O.denO d)
def zfr{d:Hp}(O:Obs K F H L os)(s:Same (snap F H L os) d):Same F (bare d L os):=λb o e=>by
 have f:¬Tr L os b:=λt=>by rw[O.none t] at e;cases e
 unfold bare;rw[if_neg f];exact s b o (O.same b o e)
def yfl{d f:Hp}(s:Same d f):Same (bare d L os) f:=λb o e=>by
 unfold bare at e;by_cases t:Tr L os b
 ·rw[if_pos t] at e;cases e
 ·rw[if_neg t] at e;exact s b o e
def yfm{d:Hp}(n:∀a o,d a=some o->snap F H L os a=some o\/H a=none):∀a o,bare d L os a=some o->F a=some o\/H a=none:=λa o e=>by
 unfold bare at e;by_cases t:Tr L os a
 ·rw[if_pos t] at e;cases e
 ·rw[if_neg t] at e;rcases n a o e with z|z
  ·unfold snap at z;rw[if_neg t] at z;exact .inl z
  ·exact .inr z
def zjr{d:Hp}{b:Addr}(t:Tr L os b):bare d L os b=none:=by unfold bare;rw[if_pos t]
def Obs.at(O:Obs K F H L os){b:Addr}(t:Tr L os b):(∃f,H b=some (.lst f))\/∃C e g,H b=some (.ins C e g):=by
 rcases t with t|t
 ·subst t;exact .inl ⟨_,O.hL⟩
 ·obtain⟨o,i,j⟩:=Z5.mp t
  obtain⟨_,C,e,l,m,n,p,c,h,d⟩:=O.ob o i
  rw[<-j];exact .inr ⟨_,_,_,h⟩
def ztj{d:Hp}(O:Obs K F H L os)(s:Same (snap F H L os) d):∀a f,SqT K d a f->SqT K (bare d L os) a f:=λa f h=>by
 have key:∀o,d a=some o->(∀g,o ≠ .lst g)->(∀C i j,o ≠ .ins C i j)->bare d L os a=some o:=λo e l m=>by
  have n:¬Tr L os a:=λt=>by
   rcases O.at t with⟨g,z⟩|⟨C,i,j,z⟩
   ·have:=s a _ ((zij t).trans z)
    rw[e] at this;exact l g (Z0 this)
   ·have:=s a _ ((zij t).trans z)
    rw[e] at this;exact m _ _ _ (Z0 this)
  unfold bare;rw[if_neg n];exact e
 rcases h with(h|⟨o,h⟩)|h
 ·exact .inl (.inl (key _ h (λ_ z=>by cases z) (λ_ _ _ z=>by cases z)))
 ·exact .inl (.inr ⟨o,key _ h (λ_ z=>by cases z) (λ_ _ _ z=>by cases z)⟩)
 ·exact .inr h
def BoAt.move{f g:Hp}{a:Addr}{l:List D}(B:BoAt K F H a l)(s:Same F f)(n:f a=Option.none)(e:g a=H a):BoAt K f g a l:=by
 obtain⟨_,C,i,j,m,o,p,c,h,d⟩:=B
 exact⟨n,C,i,j,m,o,p,c,e.trans h,d.mono s⟩
theorem Obs.move{d g:Hp}(O:Obs K F H L os)(s:Same F d)(n:∀b,Tr L os b->d b=Option.none)(e:∀b,Tr L os b->g b=H b):Obs K d g L os:=
 ⟨(e L (.inl rfl)).trans O.hL,n L (.inl rfl),λo f=>(O.ob o f).move s (n _ (.inr (We f))) (e _ (.inr (We f))),O.nd⟩
def Obs.read{d e:Hp}(O:Obs K F H L os)(s:Same (snap F H L os) d)(h:Same H e):Obs K (bare d L os) e L os:=
 O.move (zfr O s) (λb t=>zjr t) (λb t=>by
  rcases O.at t with⟨f,z⟩|⟨C,g,i,z⟩
  ·rw[z];exact h b _ z
  ·rw[z];exact h b _ z)
end
open PySem L2 PyProof.Rows
structure SS(K:vE)(F H:Hp)(σ:L2.St)(ρ:Rho):Prop where
 sub:Same F H
 env:∀(i:Nat) d,ρ[i]? = some (some d)->∃v,σ[i]? = some (some v)/\Den K F d v
 len:σ.length=ρ.length
section
variable{K:vE}{F H F' H':Hp}{σ:L2.St}{ρ:Rho}
def SS.er(S:SS K F H σ ρ):ER K H F F H σ ρ:=⟨S.sub,Same.refl _,Same.refl _,λ_ _ e=>.inl e,S.env⟩
theorem SS.mono(S:SS K F H σ ρ)(s:Same F F')(h:Same F' H'):SS K F' H' σ ρ:=⟨h,λi d e=>by
 obtain⟨v,f,g⟩:=S.env i d e
 exact⟨v,f,g.mono s⟩,S.len⟩
theorem SS.set(S:SS K F H σ ρ){i:Nat}{d:D}{v:V}(f:i<ρ.length)(q:Den K F d v):SS K F H (σ.set i (some v)) (ρ.set i (some d)):=⟨S.sub,λj e h=>by
 by_cases z:i=j
 ·subst z;rw[Yu f] at h;cases h;exact⟨v,Yu (by rw[S.len];exact f),q⟩
 ·rw[Yi z] at h;obtain⟨u,g,l⟩:=S.env j e h
  exact⟨u,by rw[Yi z];exact g,l⟩,by rw[Wr,Wr];exact S.len⟩
end
section
variable{X:Cx}{c:TC}{Γ:Nat->∅}
def tEx(Γ:Nat->∅)(K:vE)(e:E):TE:=λh H Q=>∃F d w,SS K F H h d/\ev Γ e d=some w/\∀v f g,Same F g->ER K H F g f h d->RW K H g f w v->Q v f
def yjo(f:XE X c Γ){n:Nat}{e:Expr}{d:E}(h:trE n c e=some d):PE X e (tEx Γ X.K d):=λpins s g H Q I ⟨F,j,w,S,i,k⟩=>
 (zgq f n).1 _ _ _ _ h i H F pins s g H Q I ⟨F,S.er,k⟩
def tExs(Γ:Nat->∅)(K:vE)(e:Es):TA:=λg H Q=>∃F d h,SS K F H g d/\evs Γ e d=some h/\∀i j f,Same F f->ER K H F f j g d->DenL K f h i->Q i j
def pa_ex(f:XE X c Γ){n:Nat}{e:List Expr}{d:Es}(h:trEs n c e=some d):PA X e (tExs Γ X.K d):=λpos pins s g H Q I ⟨F,j,w,S,i,k⟩=>
 (zgq f n).2.1 _ _ _ _ h i H F pos pins s g H Q I ⟨F,S.er,k⟩
def tExT(Γ:Nat->∅)(K:vE)(e:E):TT:=λg H Q=>∃F f k,SS K F H g f/\((ev Γ e f).map W.d).bind zbt=some k/\∀h i,Same F i->ER K H F i h g f->Q k h
def pt_ex(f:XE X c Γ){n:Nat}{e:Expr}{d:E}(h:trT n c e=some d):PT X e (tExT Γ X.K d):=λpins s g H Q I ⟨F,j,k,S,i,q⟩=>
 (zrp f n).1 _ _ _ _ h i H F pins s g H Q I ⟨F,S.er,q⟩
end
def zgv(K:vE)(i:D->Addr->D->Prop):Sp:=λj H Q _=>∃F v T a d C h g,j=[v]/\Same F H/\Den K F T v/\i T a d/\F a=some (.ins C h g)/\g.length<1000/\PySem.W.nsIn K mainGlobals "Bound" = some (some (.ref C)) /\
 ∀e f u,Same F f->(∀b o,f b=some o->F b=some o\/H b=none)->(∀b o,b≠a->f b=some o->e b=some o)->(∀b o,b≠a->H b=some o->e b=some o)->e a=some (.ins C h (putF "closing" u g))->Den K f d u->Q .non e
section
variable{P:Program}{w:World}{K:vE}{mg:Str->Option Value}{base:Heap}{Γ:Nat->∅}
def set_ok{x q:Str}{n:Stmt}{f:Addr}{Z:FuncData}{N:List Str}{p mid:Str}{r k m:Nat}{h i:List (Str×Nat×Nat)}{t:List Stmt}{z:Ss}{g:Expr}{ve:E}{B G I:Pos}{Ψ:D->Addr->D->Prop}
 (Fn:Fun K x q n f Z)(S:FnScope N [p] (Bd n))(hb:Bg n=t++[.Assign [.Attribute (.Name mid B) "closing" G] g I])
 (J:trSs m ⟨N,Bd n,h,i,true⟩ t=some z)(L:trE m ⟨N,Bd n,h,i,true⟩ g=some ve)(M:slot ⟨N,Bd n,h,i,true⟩ mid=some r)
 (O:∀env,swapsWith g (some (.Attribute (.Name mid B) "closing" G)) I.line env=pure false)
 (hd:Deps P w K mg base k Γ h i true)
 (U:∀T a d,Ψ T a d->∃j l,exs Γ z ([~~~T]++List.replicate (N.length-1) none)=some (.nx j)/\(view j)[r]? = some (some (.obj a l))/\ev Γ ve (view j)=some (.val d)):
  FnOk P w K mg base CX0 (k+1) f Z [p] (zgv K Ψ):=by
 refine Fn.ok S (λvs H Q E ⟨F,v,T,a,d,C,dx,fs,V,_⟩=>by rw[V];rfl) (λa0 A outer s H vs Q E hr ⟨F,v,T,a,d,C,dx,fs,V,h2,h3,h4,h5,h6,h7,h8⟩=>?_);have W:=zvl (CX:=CX0) (E:=E) (outer:=outer) (H:=H) S hd hr;subst V;obtain⟨j,l,e1,e2,e3⟩:=U T a d h4
 obtain⟨s1,s2,s3,s4⟩:=zad W.toXE M
 have hv:=(zgq W.toXE m).1 _ _ _ _ L e3 H F;have hl:=zek (znv (f := "closing") (pos:=I) (pos':=G) (zak (pos:=B) s1 (DL.Loc.vis s2) s3 s4) hv (O _));have hp:=yfz W hl H F t m z _ _ J e1;rw[<-hb] at hp;refine⟨_,hp,F,?_,λa1 H1 F1 q1 S1=>?_⟩
 ·exact zrr (N:=N) (K:=K) h2 (DenL.cons h3 DenL.nil)
 ·obtain⟨s0,R⟩:=S1.borrow
  refine⟨_,R,λu H2 F2 q2 R2 dn=>?_⟩
  obtain⟨y,y1,y2⟩:=R2.env r _ e2
  obtain⟨z1,C',a2,a3,xs,z2,z3,z4,z5⟩:=y2.obj
  have z6:=R2.base _ _ h5;rw[z3] at z6;cases z6;obtain⟨X,c',cl,na⟩:=(hd.xf rfl).ex
  have c2:some (some (Value.ref C))=some (some (Value.ref X)):=h7.symm.trans c';cases c2;refine⟨y,y1,a,C,dx,fs,z1,R2.sub _ _ z3,cl,na "closing" vA,h6,?_⟩
  refine h8 _ F2 u R2.base R2.new (λb o Y e=>?_) (λb o Y e=>?_) Bm dn
  ·rw[Bk Y];exact R2.sub b o e
  ·rw[Bk Y];exact R2.same b o e
def zwj(K:vE):Sp:=λh H Q _=>∃x C d e f g,h=[.ref x,e,f,g]/\PySem.W.nsIn K mainGlobals "Bound" = some (some (.ref C))/\H x=some (.ins C d []) /\
 Q .non (upd H x (.ins C d [("place",e),("side",f),("least",g),("closing", .non)]))
def yla{x e:Str}{g:Stmt}{f:Addr}{q:FuncData}{k:Nat}{t u v z D F G I J L M N d1 d2 O R:Pos}{T}(U:Fun K x e g f q)(S:FnScope ["self","place","side","least"] ["self","place","side","least"] (Bd g))
 (W:Bg g=[.Assign [.Attribute (.Name "self" t) "place" u] (.Name "place" v) z,.Assign [.Attribute (.Name "self" D) "side" F] (.Name "side" G) I,.Assign [.Attribute (.Name "self" J) "least" L] (.Name "least" M) N,.Assign [.Attribute (.Name "self" d1) "closing" d2] (.Constant .none T O) R])
 (X:∀y∈(["self","place","side","least"]:List Str),(Bd g).names.lookup y=some .local)(B:BFacts K):FnOk P w K mg base CX0 (k+1) f q ["self","place","side","least"] (zwj K):=by
 refine U.ok S (λY H Q E ⟨x,C,h,j,v1,n,o,_⟩=>by rw[o];rfl) (λp A outer s H Y Q E hr ⟨x,C,h,j,v1,n,o,Z,h3,h4⟩=>?_);subst o;obtain⟨a0,r,l,m⟩:=B.ex
 rw[Z] at r;cases r;rw[W];have d:∀y∈(["self","place","side","least"]:List Str),Vis (cxOf CX0 P w K mg base ["self","place","side","least"] e (Bd g) f p A outer s H E).nox.env.scope y:=λy hy=>.inl (X y hy)
 refine⟨_,zab (znv (f := "place") (zak (i:=0) rfl (d "self" vA)) (zak (i:=1) rfl (d "place" vA)) rfl)
  (zab (znv (f := "side") (zak (i:=0) rfl (d "self" vA)) (zak (i:=2) rfl (d "side" vA)) rfl)
  (zab (znv (f := "least") (zak (i:=0) rfl (d "self" vA)) (zak (i:=3) rfl (d "least" vA)) rfl)
  (zek (znv (f := "closing") (zak (i:=0) rfl (d "self" vA)) ygb rfl)))),?_⟩
 have l1:=zce "place" j [];have l2:=zce "side" v1 (putF "place" j []);have l3:=zce "least" n (putF "side" v1 (putF "place" j []));have l0:([]:List (Str×V)).length=0:=rfl;refine⟨j,rfl,.ref x,rfl,x,C,h,[],rfl,h3,l,m "place" vA,by decide,?_⟩
 refine⟨v1,rfl,.ref x,rfl,x,C,h,_,rfl,Bm,l,m "side" vA,by omega,?_⟩
 refine⟨n,rfl,.ref x,rfl,x,C,h,_,rfl,Bm,l,m "least" vA,by omega,?_⟩
 refine⟨.ref x,rfl,x,C,h,_,rfl,Bm,l,m "closing" vA,by omega,?_⟩
 show Q .non _;rw[zla,zla,zla];exact h4
end
open PySem L2 PyProof.Rows
def GSp(P:Program)(w:World)(K:vE)(e:Str->Option Value)(d:Heap)(k:Nat)(x:Str)(g:Sp):Prop:=
 ∃(a:Addr) (f:FuncData) (ps:List Str),FnOk P w K e d CX0 k a f ps g/\e x=some (.ref a)/\PySem.W.keepIn K (.ref a)=true/\Binds K f ps []
structure BS(K:vE)(F H:Hp)(σ:L2.St)(ρ:Rho)(L:Addr)(os:List (Addr×List D))(ib:Nat):Prop where
 ss:SS K F H σ ρ
 ob:Obs K F H L os
 hb:σ[ib]? = some (some (.ref L))
 nb:ρ[ib]? = some none
structure Kp(H0 F0:Hp)(T:Addr->Prop)(F H:Hp):Prop where
 fs:Same F0 F
 new:∀b o,F b=some o->F0 b=some o\/H0 b=none
 hs:∀b o,H0 b=some o -> ¬T b->H b=some o
theorem Kp.trans{H0 F0 g h f i:Hp}{T j:Addr->Prop}(a:Kp H0 F0 T g h)(b:Kp h g j f i)(t:∀b,j b->T b)(n:∀b,T b->f b=none):Kp H0 F0 T f i:=
 ⟨a.fs.trans b.fs,λc o e=>(b.new c o e).elim (λz=>a.new c o z) (λz=>by
  refine .inr ?_;cases q:H0 c with
  |none=>rfl
  |some u=>
   have d:¬T c:=λt=>by rw[n c t] at e;cases e
   rw[a.hs c u q d] at z;cases z),λc o e d=>b.hs c o (a.hs c o e d) λl=>d (t c l)⟩
def rhoB(d:Rho)(e:Nat)(f:List (Addr×List D)):Rho:=d.set e (some (.lst (dOs f)))
section
variable{K:vE}{F H:Hp}{σ:L2.St}{ρ:Rho}{L:Addr}{os:List (Addr×List D)}{ib:Nat}{Γ:Nat->∅}
def zyr{d:Type}{l:List d}{i:Nat}{x:d}(h:l[i]? = some x):i<l.length:=(Zo.mp h).1
theorem BS.snap(B:BS K F H σ ρ L os ib):SS K (DL.snap F H L os) H σ (rhoB ρ ib os):=by
 have d:=B.ss.mono B.ob.same (ybq B.ss.sub);have:=d.set (zyr B.nb) B.ob.den
 rwa [show σ.set ib (some (.ref L))=σ from ?_] at this
 apply Qc
 intro j;by_cases z:ib=j
 ·subst z;rw[Yu (zyr B.hb),B.hb]
 ·rw[Yi z]
def BS.back(B:BS K F H σ ρ L os ib){d f:Hp}(s:Same (DL.snap F H L os) d)(R:ER K H (DL.snap F H L os) d f σ (rhoB ρ ib os)):BS K (bare d L os) f σ ρ L os ib/\Kp H F (λ_=>False) (bare d L os) f:=
 ⟨⟨B.ss.mono (zfr B.ob s) (yfl R.sub),B.ob.read s R.same,B.hb,B.nb⟩,zfr B.ob s,yfm R.new,λb o e _=>R.same b o e⟩
theorem BS.set(B:BS K F H σ ρ L os ib){i:Nat}{d:D}{v:V}(f:i<ρ.length)(e:i≠ib)(q:Den K F d v):BS K F H (σ.set i (some v)) (ρ.set i (some d)) L os ib:=
 ⟨B.ss.set f q,B.ob,by rw[Yi e];exact B.hb,by rw[Yi e];exact B.nb⟩
def setC(os:List (Addr×List D))(a:Addr)(d:D):List (Addr×List D):=os.map λo=>(o.1,if o.1=a then o.2.set 3 d else o.2)
def zli{a:Addr}{d:D}:(setC os a d).map (·.1)=os.map (·.1):=by
 unfold setC;rw[Yd];rfl
def ybu{a:Addr}{d:D}:(setC os a d).map (λo=>V.ref o.1)=os.map λo=>V.ref o.1:=by
 unfold setC;rw[Yd];rfl
def setC_tr{a:Addr}{d:D}{b:Addr}:Tr L (setC os a d) b↔Tr L os b:=by unfold Tr;rw[zli]
def znu{d e f g u:V}:putF "closing" u [("place",d),("side",e),("least",f),("closing",g)]=([("place",d),("side",e),("least",f),("closing",u)]:List (Str×V)):=by
 unfold putF;rw[if_neg vA];unfold putF;rw[if_neg vA];unfold putF;rw[if_neg vA];unfold putF;rw[if_pos rfl]
def zze{G:Hp}{l:List D}{j m n o u:V}{d:D}(h:DenL K G l [j,m,n,o])(q:Den K G d u):DenL K G (l.set 3 d) [j,m,n,u]:=by
 obtain⟨f,g,rfl⟩:∃f g,l=f::g:=by cases l with|nil=>have:=h.length;cases this|cons a b=>exact⟨a,b,rfl⟩
 obtain⟨_,_,e,p,h⟩:=h.inv_cons;cases e
 obtain⟨t,l1,rfl⟩:∃f l1,g=f::l1:=by cases g with|nil=>have:=h.length;cases this|cons a b=>exact⟨a,b,rfl⟩
 obtain⟨_,_,e,r,h⟩:=h.inv_cons;cases e
 obtain⟨v,l2,rfl⟩:∃f l2,l1=f::l2:=by cases l1 with|nil=>have:=h.length;cases this|cons a b=>exact⟨a,b,rfl⟩
 obtain⟨_,_,e,s,h⟩:=h.inv_cons;cases e
 obtain⟨w,i,rfl⟩:∃f i,l2=f::i:=by cases l2 with|nil=>have:=h.length;cases this|cons a b=>exact⟨a,b,rfl⟩
 obtain⟨_,_,e,A,h⟩:=h.inv_cons;cases e
 have z:i=[]:=by have:=h.length;exact Vp.mp this.symm
 subst z;exact DenL.cons p (DenL.cons r (DenL.cons s (DenL.cons q DenL.nil)))
theorem Obs.setC{f H3:Hp}(O:Obs K F H L os){a:Addr}{d:D}{u:V}{C l:Addr}{m:List (Str×V)}(J:a∈os.map (·.1))(s:Same F f)(n:∀b,Tr L os b->f b=Option.none)(e:∀b o,b≠a->H b=some o->H3 b=some o)
 (g:H a=some (.ins C l m))(E:H3 a=some (.ins C l (putF "closing" u m)))(q:Den K f d u):Obs K f H3 L (DL.setC os a d):=by
 have i:L≠a:=λz=>by subst z;rw[O.hL] at g;cases g
 refine⟨by rw[ybu];exact e L _ i O.hL,n L (.inl rfl),λo r=>?_,by rw[zli];exact O.nd⟩
 unfold DL.setC at r;obtain⟨p,t,rfl⟩:=Z5.mp r
 obtain⟨M,G,j,v,w,A,I,c,h,B⟩:=O.ob p t
 refine⟨n p.1 (.inr (We t)),?_⟩
 by_cases z:p.1=a
 ·simp only[if_pos z];rw[z] at h |-;rw[g] at h;cases h;exact⟨_,_,v,w,A,u,c,by rw[E,znu],zze (B.mono s) q⟩
 ·simp only[if_neg z];exact⟨G,j,v,w,A,I,c,e _ _ z h,B.mono s⟩
def BS.setc(B:BS K F H σ ρ L os ib){n:D->Addr->D->Prop}{A:Es}{T d:D}{a:Addr}{E:XK}{Q:VK}(U:evs Γ A (rhoB ρ ib os)=some [T])(V:n T a d)(W:lf d=true)(p:a∈os.map (·.1))
 (k:∀f g,BS K g f σ ρ L (DL.setC os a d) ib->Kp H F (Tr L os) g f->Q .non f):zpq (zgv K n) [] E (tExs Γ K A) σ H Q:=
 ⟨_,_,_,B.snap,U,λX G I q i Y=>by
  show zgv K n (X++[]) G Q E;rw[K3];obtain⟨v,Z,e,qv,qn⟩:=Y.inv_cons
  have:=qn.inv_nil
  subst this e;obtain⟨o,ho,eo⟩:=Z5.mp p
  obtain⟨f0,C,r,J,M,N,O,c,h,dd⟩:=B.ob.ob o ho
  rw[eo] at h;have s:Tr L os a:=.inr p;have P:I a=some (.ins C r [("place",J),("side",M),("least",N),("closing",O)]):=q _ _ ((zij s).trans h);refine⟨I,v,T,a,d,C,r,_,rfl,i.sub,qv,V,P,by simp only[Zq,Kx];decide,c,λf g u R n2 b2 S w2 dn=>?_⟩
  have j:Same (DL.snap F H L os) g:=q.trans R;obtain⟨B1,a0⟩:=B.back q i
  have w:G a=some (.ins C r [("place",J),("side",M),("least",N),("closing",O)]):=i.sub _ _ P;have sm:Same F (bare g L os):=zfr B.ob j;have l:Same (bare g L os) f:=λb o e=>by
   unfold bare at e;by_cases t:Tr L os b
   ·rw[if_pos t] at e;cases e
   ·rw[if_neg t] at e;exact b2 b o (λz=>t (z ▸ s)) e
  have O2:Obs K (bare g L os) f L (DL.setC os a d):=B1.ob.setC p (λb o e=>by
   unfold bare at e |-;by_cases t:Tr L os b
   ·rw[if_pos t] at e;cases e
   ·rw[if_neg t] at e |-;exact R b o e) (λb t=>zjr t) S w w2 (Den.shrink (ztj B.ob j) d W dn)
  refine k f _ ⟨B.ss.mono sm l,O2,B.hb,B.nb⟩ ⟨sm,λb o e=>?_,λb o e m=>S b o (λz=>m (z ▸ s)) (i.same b o e)⟩;have m:¬Tr L os b:=λt=>by rw[zjr t] at e;cases e
  unfold bare at e;rw[if_neg m] at e;rcases n2 b o e with z|z
  ·rcases i.new b o z with y|y
   ·unfold DL.snap at y;rw[if_neg m] at y;exact .inl y
   ·exact .inr y
  ·exact .inr (i.same.free z)⟩
end
open PySem L2 PyProof.Rows
def zkp(K:vE)(i:List (Addr×List D)->Int->List (Addr×List D)->Prop):Sp:=λj H Q _=>∃F L e h d,j=[.ref L,.int h]/\Same F H/\Obs K F H L e/\i e h d /\
 ∀f g,Same g f->Kp H F (Tr L e) g f->(∀b,Tr L e b->g b=none)->Obs K g f L d->Q .non f
theorem zof{d e:Type}(f:d->e):∀(l:List d) (n:Nat),(l.map f).eraseIdx n=(l.eraseIdx n).map f
 |[],_=>rfl
 |a::l,0=>rfl
 |a::l,n+1=>by
  show f a::(l.map f).eraseIdx n=f a::(l.eraseIdx n).map f;rw[zof f l n]
section
variable{K:vE}{F H:Hp}{L:Addr}{os:List (Addr×List D)}
def Obs.erase(O:Obs K F H L os)(n:Nat):Obs K F (upd H L (.lst ((os.eraseIdx n).map λo=>.ref o.1))) L (os.eraseIdx n):=by
 have e:(os.eraseIdx n).Sublist os:=Vw os n;refine⟨Bm,O.fL,λo f=>?_,O.nd.sublist (e.map _)⟩
 have B:=O.ob o (e.subset f);refine B.move (Same.refl _) B.1 (Bk λz=>?_);obtain⟨_,C,g,i,j,l,m,c,h,d⟩:=B
 rw[z,O.hL] at h;cases h
end
section
variable{P:Program}{w:World}{K:vE}{mg:Str->Option Value}{base:Heap}{Γ:Nat->∅}
def zqb{X:Cx}{c:TC}{m k:Nat}{e:Expr}{s:Es}{p g h:Pos}{d:D->Addr->D->Prop}(f:XE X c Γ)(i:Room k X.A)(j:trEs m c [e]=some s)(l:Bf e=true)(n:isGl c "set_closing" = true)
 (G:GSp X.prog X.w X.K X.mg X.base k "set_closing" (zgv X.K d)):PS X (.Expr (.Call (.Name "set_closing" p) [e] [] g) h) (ybo (zpq (zgv X.K d) [] E0 (tExs Γ X.K s))):=by
 obtain⟨a,z,ps,o,q,r,t⟩:=G
 obtain⟨u,v⟩:=zco f n
 exact zel (zqf (E:=E0) o i u q r t .nil ycm (pa_ex f j) v (Bl l) rfl) rfl
def ymg{x u:Str}{v:Stmt}{f:Addr}{fd:FuncData}{k m:Nat}{l r:List (Str×Nat×Nat)}{T U:Expr}{s1 s2:Es}{p p1 p2 p3 ap cp ep c1 c2 q1 q2:Pos}{W:D->Addr->D->Prop}{Θ:List (Addr×List D)->Int->List (Addr×List D)->Prop}
 (Fn:Fun K x u v f fd)(S:FnScope ["bounds","k"] ["bounds","k"] (Bd v))
 (hb:Bg v=[.Expr (.Call (.Attribute (.Name "bounds" p) "pop" ap) [.Name "k" p1] [] cp) ep,.Expr (.Call (.Name "set_closing" p2) [T] [] c1) q1,.Expr (.Call (.Name "set_closing" p3) [U] [] c2) q2])
 (B:(ap.endLine == cp.line)=true)(hl:∀y∈(["bounds","k"]:List Str),(Bd v).names.lookup y=some .local)
 (X:trEs m ⟨["bounds","k"],Bd v,l,r,true⟩ [T]=some s1)(Y:trEs m ⟨["bounds","k"],Bd v,l,r,true⟩ [U]=some s2)(n1:Bf T=true)(n2:Bf U=true)
 (hg:isGl ⟨["bounds","k"],Bd v,l,r,true⟩ "set_closing" = true)(G:GSp P w K mg base k "set_closing" (zgv K W))(hd:Deps P w K mg base k Γ l r true)
 (Z:∀g h j,Θ g h j -> -(2^63)<=h/\h<2^63/\∃n T1 I d1 T2 O d2,seqIndex? h g.length=some n/\n<g.length /\
   evs Γ s1 [some (.lst (dOs (g.eraseIdx n))),some (.int h)]=some [T1]/\W T1 I d1/\lf d1=true/\I∈(g.eraseIdx n).map (·.1) /\
   evs Γ s2 [some (.lst (dOs (setC (g.eraseIdx n) I d1))),some (.int h)]=some [T2]/\W T2 O d2/\lf d2=true/\O∈(g.eraseIdx n).map (·.1)/\j=setC (setC (g.eraseIdx n) I d1) O d2):
  FnOk P w K mg base CX0 (k+1) f fd ["bounds","k"] (zkp K Θ):=by
 refine Fn.ok S (λvs H Q E ⟨F,L,g,h,j,h1,_⟩=>by rw[h1];rfl) (λa0 A outer s H vs Q E hr ⟨F,L,g,h,j,h1,h2,C,h4,h5⟩=>?_);have hX:=zvl (CX:=CX0) (E:=E) (outer:=outer) (H:=H) S hd hr;subst h1;obtain⟨b1,b2,n,T1,I,d1,T2,O,d2,g1,g2,g3,g4,g5,g6,g7,g8,g9,a3,rfl⟩:=Z g h j h4
 rw[hb];have J:∀y∈(["bounds","k"]:List Str),Vis (cxOf CX0 P w K mg base ["bounds","k"] u (Bd v) f a0 A outer s H E).nox.env.scope y:=λy hy=>.inl (hl y hy)
 refine⟨_,zab (zel (ycl Jc PySem.F.slot_list_pop PySem.F.type_list_pop ycu (zak (i:=0) rfl (J "bounds" vA)) (zcc (zak (i:=1) rfl (J "k" vA)) zgk (Bl rfl)) rfl (by rw[Bl rfl];rfl) B (Bl rfl) rfl) rfl)
  (zab (zqb (k:=k) hX.toXE hr X n1 hg G) (zek (zqb (k:=k) hX.toXE hr Y n2 hg G))),?_⟩
 have hx:(g.map λo=>V.ref o.1)[n]? = some (V.ref (g[n]'g2).1):=by rw[Zi,Zh g2];rfl
 refine⟨_,rfl,.inl ⟨rfl,_,SqL.of C.hL⟩,.int h,rfl,L,_,h,n,_,rfl,rfl,C.hL,b1,b2,by rw[Zd];exact g1,hx,?_⟩
 rw[zof];have O1:=C.erase n;have F1:Same F (upd H L (.lst ((g.eraseIdx n).map λo=>.ref o.1))):=λb o e=>by
  rw[Bk (λz=>by subst z;rw[C.fL] at e;cases e)];exact h2 b o e
 have B1:BS K F (upd H L (.lst ((g.eraseIdx n).map λo=>.ref o.1))) (L2.start ["bounds","k"] [.ref L,.int h]) [none,some (.int h)] L (g.eraseIdx n) 0:=by
  refine⟨⟨F1,λi d e=>?_,rfl⟩,O1,rfl,rfl⟩
  match i,e with
  |1,e=>
   cases e;exact⟨_,rfl,Den.int_mk⟩
 have K1:Kp H F (Tr L g) F (upd H L (.lst ((g.eraseIdx n).map λo=>.ref o.1))):=⟨Same.refl _,λ_ _ e=>.inl e,λb o e nt=>by rw[Bk λz=>nt (.inl z)];exact e⟩;have trS:∀b,Tr L (g.eraseIdx n) b->Tr L g b:=λb t=>t.imp id λt=>((Vw g n).map _).subset t
 refine B1.setc g3 g4 g5 g6 λH2 F2 B2 k2=>?_;have M:∀b,Tr L g b->F2 b=none:=λb t=>by
  cases q:F2 b with
  |none=>rfl
  |some o=>
   rcases k2.new b o q with z|z
   ·rw[C.none t] at z;cases z
   ·have:=C.at t
    by_cases R:b=L
    ·subst R;rw[Bm] at z;cases z
    ·rw[Bk R] at z;rcases this with⟨_,y⟩|⟨_,_,_,y⟩<;>(rw[y] at z;cases z)
 have K2:=K1.trans k2 trS M;refine B2.setc g7 g8 g9 (by rw[zli];exact a3) λH3 F3 B3 k3=>?_;have N:∀b,Tr L g b->F3 b=none:=λb t=>by
  cases q:F3 b with
  |none=>rfl
  |some o=>
   rcases k3.new b o q with z|z
   ·rw[M b t] at z;cases z
   ·by_cases t2:Tr L (g.eraseIdx n) b
    ·have:=B2.ob.at (setC_tr.mpr t2)
     rcases this with⟨_,y⟩|⟨_,_,_,y⟩<;>(rw[y] at z;cases z)
    ·have R:b≠L:=λz=>t2 (.inl z)
     rcases C.at t with⟨_,y⟩|⟨_,_,_,y⟩<;>(rw[<-Bk (H:=H) (o:=.lst ((g.eraseIdx n).map λo=>.ref o.1)) R] at y;rw[k2.hs b _ y t2] at z;cases z)
 exact h5 H3 F3 B3.ss.sub (K2.trans k3 (λb t=>trS b (setC_tr.mp t)) N) N B3.ob
end
open PySem L2 PyProof.Rows
structure KnB(H0 F0 F H:Hp):Prop where
 fs:Same F0 F
 new:∀b o,F b=some o->F0 b=some o\/H0 b=none
 hs:Same H0 H
def KnB.step{H0 F0 d g f i:Hp}(k:KnB H0 F0 d g)(s:Same d f)(n:∀b o,f b=some o->d b=some o\/g b=none)(h:Same H0 i):KnB H0 F0 f i:=
 ⟨k.fs.trans s,λb o e=>(n b o e).elim (k.new b o) λz=>.inr (k.hs.free z),h⟩
section
variable{K:vE}{F H:Hp}{L:Addr}{os:List (Addr×List D)}
def Obs.add(O:Obs K F H L os)(v:Same F H){C x g:Addr}{j m n:V}{p s l:D}(A:PySem.W.nsIn K mainGlobals "Bound" = some (some (.ref C)))(w:H x=Option.none)(r:H g=Option.none)(ne:g≠x)
 (E:Den K F p j)(G:Den K F s m)(I:Den K F l n){q:Hp}(e:q=upd (upd (upd H g (.own x)) x (.ins C g [("place",j),("side",m),("least",n),("closing", .non)])) L (.lst ((os.map λo=>.ref o.1)++[.ref x]))):
  Obs K F q L (os++[(x,[p,s,l,.non])])/\Same F q/\(∀b o,H b=some o->b≠L->q b=some o):=by
 subst e;have t:∀b o,H b=some o->b≠x:=λb o e z=>by rw[z,w] at e;cases e
 have J:∀b o,H b=some o->b≠g:=λb o e z=>by rw[z,r] at e;cases e
 have f:∀b o,H b=some o->b≠L->upd (upd (upd H g (.own x)) x (.ins C g [("place",j),("side",m),("least",n),("closing", .non)])) L (.lst ((os.map λo=>.ref o.1)++[.ref x])) b=some o:=λb o e M=>by
  rw[Bk M,Bk (t b o e),Bk (J b o e)];exact e
 have N:x≠L:=λz=>t L _ O.hL z.symm
 have P:F x=Option.none:=v.free w;refine⟨⟨?_,O.fL,λo i=>?_,?_⟩,λb o e=>f b o (v b o e) (λz=>by rw[z,O.fL] at e;cases e),f⟩
 ·rw[Bm,Yl];rfl
 ·rcases Yh.mp i with i|i
  ·have B:=O.ob o i;refine B.move (Same.refl _) B.1 ?_;obtain⟨_,Q,u,R,S,T,U,c,h,d⟩:=B
   rw[h];exact f _ _ h (λz=>by rw[z,O.hL] at h;cases h)
  ·have:=Zs.mp i
   subst this;exact⟨P,C,g,j,m,n,.non,A,by rw[Bk N,Bm],DenL.cons E (DenL.cons G (DenL.cons I (DenL.cons Den.non_mk DenL.nil)))⟩
 ·rw[Yl];refine Gx.mpr ⟨O.nd,Y8 _ _,λa X b Y z=>?_⟩;have:=Zs.mp Y
  subst this;obtain⟨o,Z,h2⟩:=Z5.mp X
  obtain⟨_,Q,u,R,S,T,U,c,h,d⟩:=O.ob o Z
  exact t _ _ h (h2.trans z)
end
structure MkB(P:Program)(w:World)(K:vE)(mg:Str->Option Value)(base:Heap)(k:Nat):Prop where
 ex:∃C f fd ps,PySem.W.nsIn K mainGlobals "Bound" = some (some (.ref C))/\mg "Bound" = some (.ref C)/\Mk K C f/\FnOk P w K mg base CX0 k f fd ps (zwj K)/\Binds K fd ps []
def rB(d d1:D)(e f g h:Option D):Rho:=[some d,some d1,none,e,f,g,h]
def NB:List Str:=["one","other","bounds","place","side","least","k"]
structure FB(K:vE)(H0 F0 F H:Hp)(σ:L2.St)(ρ:Rho)(L:Addr)(os:List (Addr×List D)):Prop where
 bs:BS K F H σ ρ L os 2
 kn:KnB H0 F0 F H
 fr:∀b,Tr L os b->H0 b=none
section
variable{K:vE}{H0 F0 F H:Hp}{σ:L2.St}{ρ:Rho}{L:Addr}{os:List (Addr×List D)}{Γ:Nat->∅}
def FB.more(B:FB K H0 F0 F H σ ρ L os){d e:Hp}(s:Same F d)(f:Same d e)(n:∀b o,d b=some o->F b=some o\/H b=none)(h:Same H e):FB K H0 F0 d e σ ρ L os:=by
 refine⟨⟨B.bs.ss.mono s f,B.bs.ob.move s (λb t=>?_) (λb t=>?_),B.bs.hb,B.bs.nb⟩,B.kn.step s n (B.kn.hs.trans h),B.fr⟩
 ·cases q:d b with
  |none=>rfl
  |some o=>
   rcases n b o q with z|z
   ·rw[B.bs.ob.none t] at z;cases z
   ·rcases B.bs.ob.at t with⟨_,y⟩|⟨_,_,_,y⟩<;>(rw[y] at z;cases z)
 ·rcases B.bs.ob.at t with⟨_,y⟩|⟨_,_,_,y⟩<;>(rw[y];exact h _ _ y)
theorem FB.set(B:FB K H0 F0 F H σ ρ L os){i:Nat}{d:D}{v:V}(e:i<ρ.length)(f:i≠2)(q:Den K F d v):FB K H0 F0 F H (σ.set i (some v)) (ρ.set i (some d)) L os:=⟨B.bs.set e f q,B.kn,B.fr⟩
def FB.ex(B:FB K H0 F0 F H σ ρ L os){e:E}{d:D}{Q:VK}(h:ev Γ e ρ=some (.val d))(k:∀v g f,Same F f->FB K H0 F0 f g σ ρ L os->Den K f d v->Q v g):tEx Γ K e σ H Q:=
 ⟨_,_,_,B.bs.ss,h,λv g f s R q=>k v g f s (B.more s R.sub R.new R.same) q⟩
theorem FB.setc(B:FB K H0 F0 F H σ ρ L os){i:D->Addr->D->Prop}{j:Es}{T d:D}{a:Addr}{E:XK}{Q:VK}(l:evs Γ j (rhoB ρ 2 os)=some [T])(m:i T a d)(n:lf d=true)(p:a∈os.map (·.1))
 (k:∀f g,FB K H0 F0 g f σ ρ L (DL.setC os a d)->Q .non f):zpq (zgv K i) [] E (tExs Γ K j) σ H Q:=
 B.bs.setc l m n p λf g q h=>k f g ⟨q,B.kn.step h.fs h.new (λb o e=>h.hs b o (B.kn.hs b o e) λt=>by rw[B.fr b t] at e;cases e),λb t=>B.fr b (setC_tr.mp t)⟩
theorem FB.add(B:FB K H0 F0 F H σ ρ L os){C:Addr}{p s l:D}{E:XK}{g:Ends}(h:PySem.W.nsIn K mainGlobals "Bound" = some (some (.ref C)))(r:ρ[3]? = some (some p))(u:ρ[4]? = some (some s))(v:ρ[5]? = some (some l))(w:os.length<sizeLine)
 (k:∀i x,FB K H0 F0 F i σ ρ L (os++[(x,[p,s,l,.non])])->g.nx σ i):
  ybo (tBM K "list" zwx (tVar 2) (zii (tMake C (zwj K) [] E (zii (tVar 3) (zii (tVar 4) (zii (tVar 5) tNil)))) tNil)) g σ H:=by
 obtain⟨j,A,G⟩:=B.bs.ss.env 3 _ r
 obtain⟨v1,I,J⟩:=B.bs.ss.env 4 _ u
 obtain⟨m,M,N⟩:=B.bs.ss.env 5 _ v
 refine⟨_,B.bs.hb,.inl ⟨rfl,_,SqL.of B.bs.ob.hL⟩,j,A,v1,I,m,M,λx n f d O=>?_⟩
 refine⟨x,C,n,j,v1,m,rfl,h,Bm,rfl,?_⟩
 have q:L≠x:=λz=>by have:=B.bs.ob.hL;rw[z,f] at this;cases this
 have P:L≠n:=λz=>by have:=B.bs.ob.hL;rw[z,d] at this;cases this
 refine⟨L,_,.ref x,rfl,rfl,by rw[Bk q,Bk q,Bk P];exact B.bs.ob.hL,by rw[Zd];exact w,?_⟩
 rw[zla];obtain⟨Q,R,S⟩:=B.bs.ob.add B.bs.ss.sub h f d O G J N rfl
 refine k _ x ⟨⟨B.bs.ss.mono (Same.refl _) R,Q,B.bs.hb,B.bs.nb⟩,⟨B.kn.fs,B.kn.new,λb o e=>S b o (B.kn.hs b o e) λz=>?_⟩,λb t=>?_⟩
 ·rw[z,B.fr L (.inl rfl)] at e;cases e
 ·rcases t with t|t
  ·exact B.fr b (.inl t)
  ·rw[Yl] at t;rcases Yh.mp t with t|t
   ·exact B.fr b (.inr t)
   ·have:=Zs.mp t
    rw[this];exact B.kn.hs.free f
end
open PySem L2 PyProof.Rows
def spBo(K:vE)(j:D->D->List (List D)->Prop):Sp:=λl H Q _=>∃F g h i,Same F H/\DenL K F [g,h] l/\j g h i /\
 ∀L e d f,Same f d->KnB H F f d->Obs K f d L e->e.map (·.2)=i->(∀b,Tr L e b->H b=none)->Q (.ref L) d
def zzn(Γ:Nat->∅)(f:D->Addr->D->Prop)(g d1:D)(h:Es)(n:Nat)(i:List Addr)(j l1:List (List D)):Prop:=∃e:Nat->List (Addr×List D),(e 0).map (·.1)=i/\(e 0).map (·.2)=j/\(e n).map (·.2)=l1 /\
 ∀k,k<n->∃T a d,(∀l m o,evs Γ h (rhoB (rB g d1 l m o (some (.int (k:Int)))) 2 (e k))=some [T])/\f T a d/\lf d=true/\a∈(e k).map (·.1)/\e (k+1)=setC (e k) a d
def os_eq{l m:List (Addr×List D)}(d:l.map (·.1)=m.map (·.1))(e:l.map (·.2)=m.map (·.2)):l=m:=by
 apply Qc
 intro i;have a:=congrArg (λz=>z[i]?) d;have b:=congrArg (λz=>z[i]?) e;simp only[Zi] at a b;cases p:l[i]? with
 |none=>rw[p] at a;cases q:m[i]? with
  |none=>rfl
  |some y=>rw[q] at a;cases a
 |some x=>rw[p] at a b;cases q:m[i]? with
  |none=>rw[q] at a;cases a
  |some y=>
   rw[q] at a b;have f:x.1=y.1:=Z0 a;have g:x.2=y.2:=Z0 b;rw[show x=y from Wx f g]
def ss_sr{K:vE}{F H:Hp}{g:L2.St}{f:RhoS}(S:SS K F H g (view f))(n:∀(i:Nat) l,f[i]? ≠ some (some (.ow l))):SR K H F F H g f:=
 ⟨S.sub,Same.refl _,Same.refl _,λ_ _ e=>.inl e,λi d e=>S.env i d (by unfold view;rw[Zi,e];rfl),λi l e=>absurd e (n i l),λi j l m a e=>absurd e (n i l),by have:=S.len;unfold view at this;rwa [Zd] at this⟩
def FB.read{K:vE}{H0 F0 F H:Hp}{σ:L2.St}{ρ:Rho}{L:Addr}{os:List (Addr×List D)}(B:FB K H0 F0 F H σ ρ L os){d e:Hp}(s:Same (snap F H L os) d)(R:ER K H (snap F H L os) d e σ (rhoB ρ 2 os)):FB K H0 F0 (bare d L os) e σ ρ L os:=by
 obtain⟨f,k⟩:=B.bs.back s R
 exact⟨f,B.kn.step k.fs k.new (B.kn.hs.trans R.same),B.fr⟩
section
variable{P:Program}{w:World}{K:vE}{mg:Str->Option Value}{base:Heap}{Γ:Nat->∅}
def zzv{x X:Str}{V:Stmt}{f:Addr}{fd:FuncData}{k m:Nat}{n B:List (Str×Nat×Nat)}{Y N e3 ln:Expr}{it:It'}{le:E}{s3 sl:Es}{a1 a2 a3 b1 b2 b3 b4 b5 b6 b7 b8 b9 c1 c2 c3 c4 c5 c6 c7 c8 c9 g1 g2 g3 g4 h1 h2:Pos}{bk}{Ψ:D->Addr->D->Prop}{Ξ:D->D->List (List D)->Prop}
 (Fn:Fun K x X V f fd)(S:FnScope NB ["one","other"] (Bd V))
 (hb:Bg V=[.Assign [.Name "bounds" a1] (.List [] a2) a3,
   .For (.Tuple [.Name "place" b1,.Name "side" b2] bk b3) Y [.Assign [.Name "least" b4] N b5,.Expr (.Call (.Attribute (.Name "bounds" b6) "append" b7) [.Call (.Name "Bound" c1) [.Name "place" c2,.Name "side" c3,.Name "least" c4] [] c5] [] b8) b9] [] c6,
   .For (.Name "k" g1) (.Call (.Name "range" g2) [ln] [] g3) [.Expr (.Call (.Name "set_closing" c7) [e3] [] c8) c9] [] g4,
   .Return (some (.Name "bounds" h1)) h2])
 (a6:(b7.endLine == b8.line)=true)(hl:∀y∈NB,(Bd V).names.lookup y=some .local)
 (ag:trI1 (trE m ⟨NB,Bd V,n,B,true⟩) ⟨NB,Bd V,n,B,true⟩ (.Tuple [.Name "place" b1,.Name "side" b2] bk b3) Y=some it)
 (ah:trE m ⟨NB,Bd V,n,B,true⟩ N=some le)(ai:∀env,swapsWith N (some (.Name "least" b4)) b5.line env=pure false)
 (aj:∀env x,foldedSetIterable Y env x=pure x)
 (ak:trEs m ⟨NB,Bd V,n,B,true⟩ [e3]=some s3)(n3:Bf e3=true)(am:trEs m ⟨NB,Bd V,n,B,true⟩ [ln]=some sl)(nl:Bf ln=true)
 (hg:isGl ⟨NB,Bd V,n,B,true⟩ "set_closing" = true)(an:isGl ⟨NB,Bd V,n,B,true⟩ "range" = true)(ao:isGl ⟨NB,Bd V,n,B,true⟩ "Bound" = true)(ap:mg "range" = none)
 (G:GSp P w K mg base k "set_closing" (zgv K Ψ))(M:MkB P w K mg base k)(hd:Deps P w K mg base (k+1) Γ n B true)
 (aq:∀h d1 ls,Ξ h d1 ls->∃g U,g.length<1000/\evI Γ it [~~~h,~~~d1,none,none,none,none,none]=some (g,[~~~h,~~~d1,none,none,none,none,none])/\U.length=g.length /\
   (∀(i:Nat) (d:D),g[i]? = some d->∃p s l,d=D.tup [p,s]/\U[i]? = some [p,s,l,.non]/\∀W,ev Γ le (rB h d1 (some p) (some s) W none)=some (.val l)) /\
   (∀x3 x4 W O,O.length=g.length->evs Γ sl (rhoB (rB h d1 x3 x4 W none) 2 O)=some [.int (O.length:Int)]) /\
   ∀as,as.Nodup->as.length=g.length->zzn Γ Ψ h d1 s3 g.length as U ls):
  FnOk P w K mg base CX0 (k+1+1) f fd ["one","other"] (spBo K Ξ):=by
 refine Fn.ok S (λvs H Q E ⟨F,h,d1,ls,h1,h2,_⟩=>by rw[h2.length];rfl) (λa7 A outer s H vs Q E hr ⟨F,h,d1,ls,h1,h2,h3,h4⟩=>?_);have hX:=zvl (CX:=CX0) (E:=E) (outer:=outer) (H:=H) S hd hr;obtain⟨v0,aw,rfl,q0,h2⟩:=h2.inv_cons
 obtain⟨v1,ax,rfl,q1,h2⟩:=h2.inv_cons
 have:=h2.inv_nil
 subst this;obtain⟨g,U,i1,i2,i3,i4,i5,i6⟩:=aq h d1 ls h3
 obtain⟨C,fI,ay,az,m1,m2,m3,m4,m5⟩:=M.ex
 rw[hb];have a4:∀y∈NB,Loc (cxOf CX0 P w K mg base NB X (Bd V) f a7 A outer s H E).nox.env.scope y:=λy hy=>.inl (hl y hy)
 have a5:∀y∈NB,Vis (cxOf CX0 P w K mg base NB X (Bd V) f a7 A outer s H E).nox.env.scope y:=λy hy=>.inl (hl y hy)
 obtain⟨ar,aA⟩:=zco hX.toXE ao
 obtain⟨au,aB⟩:=zco hX.toXE an
 have nd:=S.nd;have av:PI (cxOf CX0 P w K mg base NB X (Bd V) f a7 A outer s H E).nox (.Tuple [.Name "place" b1,.Name "side" b2] bk b3) Y (λσ H R=>∃F,SR K H F F H σ [~~~h,~~~d1,none,none,none,none,none]/\∀J Z F',Same F F'->SR K H F F' Z σ [~~~h,~~~d1,none,none,none,none,none]->Walks K F' J g->R J Z):=
  λpins s' σ H R I ⟨F,q⟩=>(yft hX ag i2).1 H F pins s' σ H R I ⟨F,q⟩
 refine⟨_,zab (zks (i:=2) nd rfl (a4 "bounds" vA) (ygc zgk) rfl (.inr (hl _ vA)))
  (zab (zxa hX.po hX.calm av (zxi hX.calm (zho (zit (i:=3) nd rfl (a4 "place" vA) (.inr (hl _ vA))) (zho (zit (i:=4) nd rfl (a4 "side" vA) (.inr (hl _ vA))) zqe)))
   (zab (zks (i:=5) nd rfl (a4 "least" vA) (yjo hX.toXE ah) (ai _) (.inr (hl _ vA)))
    (zek (zel (ycl Jc slot_list_append PySem.F.type_list_append ziw (zak (i:=2) rfl (a5 "bounds" vA))
     (zcc (yjn (E:=E0) m3 m4 hr ar m2 m5 .nil ycm (zcc (zak (i:=3) rfl (a5 "place" vA)) (zcc (zak (i:=4) rfl (a5 "side" vA)) (zcc (zak (i:=5) rfl (a5 "least" vA)) zgk)))) zgk) rfl rfl a6 rfl rfl) rfl))) (aj _))
  (zab (zxa hX.po hX.calm (zis au ap (pa_ex hX.toXE am) (Bl nl)) (zit (i:=6) nd rfl (a4 "k" vA) (.inr (hl _ vA))) (zek (zqb (k:=k) hX.toXE (hr.mono (Jg _)) ak n3 hg G)))
  (zek (zwz (zak (i:=2) rfl (a5 "bounds" vA)))))),?_⟩
 refine⟨Yz _,λL hL=>?_⟩
 have aa:F L=none:=h1.free hL;have S0:SS K F (upd H L (.lst [])) [some v0,some v1,some (.ref L),none,none,none,none] (rB h d1 none none none none):=by
  refine⟨λb o e=>?_,λi d e=>?_,rfl⟩
  ·rw[Bk (λz=>by rw[z,aa] at e;cases e)];exact h1 b o e
  ·match i,e with
   |0,e=>cases e;exact⟨_,rfl,q0⟩
   |1,e=>cases e;exact⟨_,rfl,q1⟩
   |2,e=>cases e
   |3,e=>cases e
   |4,e=>cases e
   |5,e=>cases e
   |6,e=>cases e
   |i+7,e=>cases e
 have B0:FB K H F F (upd H L (.lst [])) [some v0,some v1,some (.ref L),none,none,none,none] (rB h d1 none none none none) L []:=
  ⟨⟨S0,⟨Bm,aa,(λo ho=>by cases ho),List.nodup_nil⟩,rfl,rfl⟩,⟨Same.refl _,λ_ _ e=>.inl e,zbc hL⟩,λb t=>by
   rcases t with t|t
   ·rw[t];exact hL
   ·cases t⟩
 have R0:SR K (upd H L (.lst [])) F F (upd H L (.lst [])) [some v0,some v1,some (.ref L),none,none,none,none] [~~~h,~~~d1,none,none,none,none,none]:=ss_sr S0 (λi l e=>by
  match i,e with
  |0,e=>cases e
  |1,e=>cases e
  |2,e=>cases e
  |3,e=>cases e
  |4,e=>cases e
  |5,e=>cases e
  |6,e=>cases e
  |i+7,e=>cases e)
 refine⟨F,R0,λJ H1 F1 s1 S1 wk=>?_⟩
 have B1:=B0.more s1 S1.sub S1.new S1.same;refine⟨λi m a0 Z=>m=g.length-i/\i<=g.length/\∃F2 O x3 x4 W,Same F1 F2/\FB K H F F2 Z a0 (rB h d1 x3 x4 W none) L O/\O.map (·.2)=U.take i,⟨_,rfl,Yz _,F1,[],none,none,none,Same.refl _,B1,rfl⟩,?_⟩
 rintro i mm a8 H2 ⟨rfl,aC,F2,O,x3,x4,W,s2,B2,ho⟩
 have ab:=wk i H2 (s2.trans B2.bs.ss.sub);by_cases ac:i<g.length
 ·have hd:=Zh ac;obtain⟨go,yl⟩:=ab.1 _ hd
  obtain⟨p,s,l,e1,e2,e3⟩:=i4 i _ hd
  refine .inr ⟨go,λa0 Z=>∃F2 O x3 x4 W,Same F1 F2/\FB K H F F2 Z a0 (rB h d1 x3 x4 W none) L O/\O.map (·.2)=U.take (i+1),λa0 Z z=>⟨g.length-(i+1),by omega,rfl,ac,z⟩,λx Z y=>?_⟩;obtain⟨F3,s3,B3,q3⟩:∃F3,Same F2 F3/\FB K H F F3 Z a8 (rB h d1 x3 x4 W none) L O/\Den K F3 g[i] x:=by
   rcases yl x Z y with⟨e,q⟩|⟨pp,xs,ds,hp,e,ex,ed,q⟩
   ·subst e;exact⟨F2,Same.refl _,B2,q.mono s2⟩
   ·subst e ex;have fp:F2 pp=none:=B2.bs.ss.sub.free hp;have sp:=zbc (o:=.tup xs) fp;refine⟨_,sp,B2.more sp (λb o e=>?_) (λb o e=>?_) (zbc hp),?_⟩
    ·by_cases z:b=pp
     ·subst z;rw[Bm] at e |-;exact e
     ·rw[Bk z] at e |-;exact B2.bs.ss.sub b o e
    ·by_cases z:b=pp
     ·subst z;exact .inr hp
     ·rw[Bk z] at e;exact .inl e
    ·rw[ed];exact Den.tup_mk (SqT.of Bm) ((q.mono s2).mono sp)
  rw[e1] at q3;obtain⟨a,xs,ex,sq,r⟩:=q3.tup
  obtain⟨u0,r0,rfl,r1,r⟩:=r.inv_cons
  obtain⟨u1,r2,rfl,r3,r⟩:=r.inv_cons
  have:=r.inv_nil
  subst this;refine⟨a,[u0,u1],ex,Same.tup B3.bs.ss.sub sq,rfl,u0,[u1],rfl,u1,[],rfl,rfl,?_⟩
  have B4:FB K H F F3 Z ((a8.set 3 (some u0)).set 4 (some u1)) (rB h d1 (some p) (some s) W none) L O:=(B3.set (i:=3) (by show 3<7;decide) vA r1).set (i:=4) (by show 4<7;decide) vA r3;refine B4.ex (e3 W) λv H5 F5 s5 B5 q5=>?_;have B6:FB K H F F5 H5 (((a8.set 3 (some u0)).set 4 (some u1)).set 5 (some v)) (rB h d1 (some p) (some s) (some l) none) L O:=B5.set (i:=5) (by show 5<7;decide) vA q5;have ln:O.length=(U.take i).length:=by rw[<-ho,Zd]
  refine B6.add m1 rfl rfl rfl ?_ λH7 x7 B7=>?_
  ·rw[ln,Wb];exact Yw (Nat.min_le_left _ _) (zwk vB)
  ·refine⟨F5,_,_,_,_,(s2.trans s3).trans s5,B7,?_⟩
   rw[Yl,ho,Q4,e2];rfl
 ·have e:i=g.length:=by omega
  subst e;refine .inl ⟨ab.2 (Zk _),?_⟩;have ae:O.map (·.2)=U:=by rw[ho,<-i3,Q9]
  have ln:O.length=g.length:=by rw[<-i3,<-ae,Zd]
  refine⟨_,_,_,B2.bs.snap,i5 x3 x4 W O ln,λvs H3 F3 s3 R3 q3=>?_⟩
  obtain⟨u,us,rfl,r1,r⟩:=q3.inv_cons
  have:=r.inv_nil
  subst this;have:=r1.int
  subst this;refine⟨_,rfl,by omega,by omega,?_⟩
  have B3:=B2.read s3 R3;obtain⟨a9,o1,o2,o3,o4⟩:=i6 (O.map (·.1)) B2.bs.ob.nd (by rw[Zd];exact ln)
  have e0:a9 0=O:=os_eq o1 (o2.trans ae.symm);rw[Z1,ln];refine zyt (λi a0 Z=>∃F' x6,FB K H F F' Z a0 (rB h d1 x3 x4 W x6) L (a9 i)) ⟨_,none,by rw[e0];exact B3⟩ (λj af H4 hj ⟨F4,x6,B4⟩=>?_) (λaf H4 ⟨F4,x6,B4⟩=>?_)
  ·obtain⟨T,a,d,t1,t2,t3,t4,t5⟩:=o4 j hj
   have B5:FB K H F F4 H4 (af.set 6 (some (.int (0+(j:Int))))) (rB h d1 x3 x4 W (some (.int (j:Int)))) L (a9 j):=by
    rw[V7];exact B4.set (i:=6) (by show 6<7;decide) vA Den.int_mk
   exact B5.setc (t1 x3 x4 W) t2 t3 t4 λH6 F6 B6=>⟨F6,_,by rw[t5];exact B6⟩
  ·exact⟨_,B4.bs.hb,h4 L _ H4 F4 B4.bs.ss.sub B4.kn B4.bs.ob o3 B4.fr⟩
end
open PySem L2 PyProof.Rows
def rF(d d1:D)(e:Option D)(n:Nat):Rho:=some d::some d1::none::e::List.replicate n none
def rFs(d d1:D)(b k:D)(n:Nat):RhoS:= ~~~d::~~~d1::~~~b::~~~k::List.replicate n none
def tTail(Γ:Nat->∅)(K:vE)(g:Ss):TS:=λD h H=>∃F e w,SR K H F F H h e/\exs Γ g e=some (.rt w)/\∀v d f,RT H F f d->RW K H f d w v->D.rt v d
section
variable{X:Cx}{c:TC}{Γ:Nat->∅}
def yci(g:XC X c Γ){m:Nat}{d:List Stmt}{f:Ss}(h:trSs m c d=some f):PSs X d (tTail Γ X.K f):=λpins s i H D I ⟨F,j,w,S,e,k⟩=>
 (zwa g m).2 _ _ _ _ h e H F pins s i H D I ⟨F,S,k⟩
end
section
variable{K:vE}{H0 F0 F H:Hp}{σ:L2.St}{ρ:Rho}{L:Addr}{os:List (Addr×List D)}{Γ:Nat->∅}
def FB.leave(B:FB K H0 F0 F H σ ρ L os){g f:Hp}{w:W}{v:V}{Q:VK}(T:RT H (snap F H L os) g f)(q:RW K H g f w v)
 (k:∀v f g,Same H0 f->Same F0 g->Same g f->(∀a o,g a=some o->F0 a=some o\/H0 a=none)->RW K H0 g f w v->Q v f):Q v f:=by
 refine k v f g (B.kn.hs.trans T.same) ((B.kn.fs.trans B.bs.ob.same).trans T.base) T.sub (λa o e=>?_) ?_
 ·rcases T.new a o e with z|z
  ·by_cases t:Tr L os a
   ·exact .inr (B.fr a t)
   ·unfold snap at z;rw[if_neg t] at z;exact B.kn.new a o z
  ·exact .inr (B.kn.hs.free z)
 ·cases w with
  |val d=>exact q
  |new l=>
   obtain⟨a,h,e,i,j,m,n⟩:=q
   exact⟨a,h,e,i,B.kn.hs.free j,m,n⟩
def FB.exr(B:FB K H0 F0 F H σ ρ L os){e:E}{d:D}{Q:VK}(h:ev Γ e (rhoB ρ 2 os)=some (.val d))(i:lf d=true)
 (k:∀v f g,FB K H0 F0 g f σ ρ L os->Den K g d v->Q v f):tEx Γ K e σ H Q:=
 ⟨_,_,_,B.bs.snap,h,λv f g s R q=>k v f _ (B.read s R) (Den.shrink (ztj B.bs.ob s) d i q)⟩
def FB.exT(B:FB K H0 F0 F H σ ρ L os){e:E}{t:Bool}{Q:Bool->Hp->Prop}(h:((ev Γ e (rhoB ρ 2 os)).map W.d).bind zbt=some t)
 (k:∀f g,FB K H0 F0 g f σ ρ L os->Q t f):tExT Γ K e σ H Q:=
 ⟨_,_,_,B.bs.snap,h,λf g s R=>k f _ (B.read s R)⟩
def FB.drop(B:FB K H0 F0 F H σ ρ L os){n:List (Addr×List D)->Int->List (Addr×List D)->Prop}{j:Int}{f:List (Addr×List D)}{p:E}{d:D}{r:Ends}{E:XK}(s:ρ[3]? = some (some (.int j)))(l:n os j f)(u:∀a∈f.map (·.1),a∈os.map (·.1))
 (w:ev Γ p (rhoB ρ 2 f)=some (.val d))(z:lf d=true)(k:∀g h m,FB K H0 F0 m h g (ρ.set 3 (some d)) L f->r.nx g h):
  tSeq (ybo (zpq (zkp K n) [] E (zii (tVar 2) (zii (tVar 3) tNil)))) (tAsg (tEx Γ K p) (zys 3)) r σ H:=by
 obtain⟨v,v1,A⟩:=B.bs.ss.env 3 _ s
 have:=A.int
 subst this;refine⟨_,B.bs.hb,_,v1,F,L,os,j,f,rfl,B.bs.ss.sub,B.bs.ob,l,λC G I i O J=>?_⟩
 have M:FB K H0 F0 G C σ ρ L f:=⟨⟨B.bs.ss.mono i.fs I,J,B.bs.hb,B.bs.nb⟩,B.kn.step i.fs i.new (λb o e=>i.hs b o (B.kn.hs b o e) λt=>by rw[B.fr b t] at e;cases e),λb t=>B.fr b (t.imp id (u b))⟩;exact M.exr w z λv h m N q=>k _ h m (N.set (zyr s) vA q)
def FB.start{z:D->D->List (List D)->Prop}{m o:V}{f d1 d:D}{n:Nat}{j:List (List D)}{A:E}{E:XK}{p:Ends}(G:Same F H)(g:DenL K F [f,d1] [m,o])(r:z f d1 j)
 (I:∀os:List (Addr×List D),os.map (·.2)=j->(os.map (·.1)).Nodup->ev Γ A (rhoB (rF f d1 none n) 2 os)=some (.val d))(J:lf d=true)
 (k:∀h l s L os,os.map (·.2)=j->FB K H F s l h (rF f d1 (some d) n) L os->p.nx h l):
  tAsg (zpq (spBo K z) [] E (zii (tVar 0) (zii (tVar 1) tNil))) (zys 2) {p with nx:=tAsg (tEx Γ K A) (zys 3) p} (some m::some o::none::none::List.replicate n none) H:=by
 refine⟨_,rfl,_,rfl,F,f,d1,j,G,g,r,λL os M N O t B C P=>?_⟩
 obtain⟨W,Q,u,R,g⟩:=g.inv_cons
 cases u;obtain⟨X,Q,u,S,g⟩:=g.inv_cons
 cases u;have T:FB K H F N M (some m::some o::some (.ref L)::none::List.replicate n none) (rF f d1 none n) L os:=by
  refine⟨⟨⟨O,λi d e=>?_,by simp[rF]⟩,B,rfl,rfl⟩,t,P⟩
  match i,e with
  |0,e=>cases e;exact⟨_,rfl,R.mono t.fs⟩
  |1,e=>cases e;exact⟨_,rfl,S.mono t.fs⟩
  |2,e=>cases e
  |3,e=>cases e
  |i+4,e=>
   have w:(List.replicate n (none:Option D))[i]? = some (some d):=e;rw[Y9] at w;split at w<;>cases w
 exact T.exr (I os C B.nd) J λv l s U q=>k _ l s L os C (U.set (i:=3) (by simp[rF]) vA q)
def FB.tail{f d1 g:D}{n:Nat}{bs:Ss}{w:W}{Q:VK}{r:Ends}(B:FB K H0 F0 F H σ (rF f d1 (some g) n) L os)(s:exs Γ bs (rFs f d1 (.lst (dOs os)) g n)=some (.rt w))(m:r.rt=Q)
 (k:∀v h j,Same H0 h->Same F0 j->Same j h->(∀a o,j a=some o->F0 a=some o\/H0 a=none)->RW K H0 j h w v->Q v h):tTail Γ K bs r σ H:=by
 refine⟨snap F H L os,rFs f d1 (.lst (dOs os)) g n,w,ss_sr ?_ ?_,s,λv h j T q=>?_⟩
 ·have:=B.bs.snap
  have e:view (rFs f d1 (.lst (dOs os)) g n)=rhoB (rF f d1 (some g) n) 2 os:=by
   unfold view rFs rhoB rF;simp[DL.B.d]
  rw[e];exact this
 ·intro i l e;match i,e with
  |0,e=>cases e
  |1,e=>cases e
  |2,e=>cases e
  |3,e=>cases e
  |i+4,e=>
   have p:(List.replicate n (none:Option DL.B))[i]? = some (some (.ow l)):=e;rw[Y9] at p;split at p<;>cases p
 ·rw[m];exact B.leave T q k
end
open PySem L2 PyProof.Rows
def yga{P:Program}{w:World}{K:vE}{mg:Str->Option Value}{base:Heap}{Γ:Nat->∅}{X:Cx}{c:TC}{k:Nat}{g x y:Str}{i j:Nat}{e:Sp}{p f h l:Pos}(d:XE X c Γ)(m:Room k X.A)(n:isGl c g=true)(G:GSp X.prog X.w X.K X.mg X.base k g e)
 (o:slot c x=some i)(q:slot c y=some j):PE X (.Call (.Name g p) [.Name x f,.Name y h] [] l) (zpq e [] E0 (zii (tVar i) (zii (tVar j) tNil))):=by
 obtain⟨a,N,ps,r,s,t,u⟩:=G
 obtain⟨v,z⟩:=zco d n
 obtain⟨B,C,F,H⟩:=zad d o
 obtain⟨I,J,L,M⟩:=zad d q
 exact zqf (E:=E0) r m v s t u .nil ycm (zcc (zak B (DL.Loc.vis C) F H) (zcc (zak I (DL.Loc.vis J) L M) zgk)) z
structure Lps(Γ:Nat->∅)(Θ:List (Addr×List D)->Int->List (Addr×List D)->Prop)(d0 d1:D)(n:Nat)(ke:E)(oss:Nat->List (Addr×List D))(ks:Nat->Int)(t:Nat):Prop where
 ke:∀j,j<=t->∀x3,ev Γ ke (rhoB (rF d0 d1 x3 n) 2 (oss j))=some (.val (.int (ks j)))
 th:∀j,j<t->Θ (oss j) (ks j) (oss (j+1))
 sb:∀j,j<t->∀a∈(oss (j+1)).map (·.1),a∈(oss j).map (·.1)
section
variable{P:Program}{w:World}{K:vE}{mg:Str->Option Value}{base:Heap}{Γ:Nat->∅}
def ztm(Γ:Nat->∅)(o:D->D->List (List D)->Prop)(p:List (Addr×List D)->Int->List (Addr×List D)->Prop)(n:Nat)(l q:E)(r:Ss)(g d1:D)(s:W):Prop:=
 ∃i m,o g d1 i/\(∀f:List (Addr×List D),f.map (·.2)=i->(f.map (·.1)).Nodup->ev Γ l (rhoB (rF g d1 none n) 2 f)=some (.val (.int m))) /\
 ∀f:List (Addr×List D),f.map (·.2)=i->(f.map (·.1)).Nodup->∃e h t,e 0=f/\h 0=m/\Lps Γ p g d1 n l e h t /\
  (∀j,j<=t->((ev Γ q (rhoB (rF g d1 (some (.int (h j))) n) 2 (e j))).map W.d).bind zbt=some (decide (j<t))) /\
  exs Γ r (rFs g d1 (.lst (dOs (e t))) (.int (h t)) n)=some (.rt s)
def fit_ok{x u:Str}{g:Stmt}{f:Addr}{fd:FuncData}{k m n:Nat}{d e:List (Str×Nat×Nat)}{N:List Str}{r l v:Expr}{Y te:E}{ss:List Stmt}{bs:Ss}{a1 a2 a3 a4 a5 a6 b1 b2 c1 c2 c3 c4 c5 g1 g2 g3:Pos}{Θ:List (Addr×List D)->Int->List (Addr×List D)->Prop}{Ξ:D->D->List (List D)->Prop}{φ:∅}
 (Fn:Fun K x u g f fd)(S:FnScope N ["one","other"] (Bd g))(Z:N.length=n+4)
 (hb:Bg g = .Assign [.Name "bounds" a1] (.Call (.Name "bounds_of" a2) [.Name "one" a3,.Name "other" a4] [] a5) a6 :: .Assign [.Name "k" b1] r b2 ::
   .While v [.Expr (.Call (.Name "drop" c1) [.Name "bounds" c2,.Name "k" c3] [] c4) c5,.Assign [.Name "k" g1] l g2] [] g3::ss)
 (a0:slot ⟨N,Bd g,d,e,true⟩ "one" = some 0)(a7:slot ⟨N,Bd g,d,e,true⟩ "other" = some 1)(z:slot ⟨N,Bd g,d,e,true⟩ "bounds" = some 2)(C:slot ⟨N,Bd g,d,e,true⟩ "k" = some 3)
 (a8:trE m ⟨N,Bd g,d,e,true⟩ r=some Y)(G:trE m ⟨N,Bd g,d,e,true⟩ l=some Y)(a9:trT m ⟨N,Bd g,d,e,true⟩ v=some te)(aa:trSs m ⟨N,Bd g,d,e,true⟩ ss=some bs)
 (I:∀env,swapsWith r (some (.Name "k" b1)) b2.line env=pure false)(J:∀env,swapsWith l (some (.Name "k" g1)) g2.line env=pure false)
 (ab:isGl ⟨N,Bd g,d,e,true⟩ "bounds_of" = true)(ac:isGl ⟨N,Bd g,d,e,true⟩ "drop" = true)
 (G1:GSp P w K mg base k "bounds_of" (spBo K Ξ))(G2:GSp P w K mg base k "drop" (zkp K Θ))(hd:Deps P w K mg base k Γ d e true)
 (ae:∀o d1 U,φ [o,d1]=some U->ztm Γ Ξ Θ n Y te bs o d1 U):FnOk P w K mg base CX0 (k+1) f fd ["one","other"] (spD K 2 φ):=by
 refine Fn.ok S (λvs H Q E ⟨Fz,ds,w,h1,V,h3,h4,h5⟩=>by rw[V.length];exact h3) (λaj A outer s H vs Q E hr ⟨F,ds,U,h1,V,h3,h4,h5⟩=>?_);have p:=zvl (CX:=CX0) (E:=E) (outer:=outer) (H:=H) S hd hr;obtain⟨o,d1,rfl⟩:∃o d1,ds=[o,d1]:=by
  match ds,h3 with
  |[o,d1],_=>exact⟨o,d1,rfl⟩
 obtain⟨ls,k0,r1,r2,r3⟩:=ae o d1 U h4
 obtain⟨v0,ak,rfl,q0,t2⟩:=V.inv_cons
 obtain⟨v1,am,rfl,q1,t3⟩:=t2.inv_cons
 have:=t3.inv_nil
 subst this;have af:L2.start N [v0,v1]=some v0::some v1::none::none::List.replicate n none:=by
  unfold L2.start;rw[Z];show some v0::some v1::List.replicate (n+2) none=_;rw[Ga,Ga]
 obtain⟨ag,ah,an,ao⟩:=zad p.toXE z
 obtain⟨M,O,ap,aq⟩:=zad p.toXE C
 rw[hb];have nd:=S.nd;refine⟨_,zab (zks (i:=2) nd ag ah (yga (P:=P) (w:=w) (K:=K) (mg:=mg) (base:=base) p.toXE hr ab G1 a0 a7) rfl (.inl rfl)) (zab (zks (i:=3) nd M O (yjo p.toXE a8) (I _) (.inl rfl))
  (zab (zrx p.po (pt_ex p.toXE a9) (zab (zel (yga (P:=P) (w:=w) (K:=K) (mg:=mg) (base:=base) p.toXE hr ac G2 z C) rfl) (zek (zks (i:=3) nd M O (yjo p.toXE G) (J _) (.inl rfl))))) (yci p aa))),?_⟩
 rw[af];refine FB.start (n:=n) h1 V r1 r2 rfl λar H2 F2 L os eo B=>?_;obtain⟨R,ks,t,o1,o2,lp,ai,tl⟩:=r3 os eo B.bs.ob.nd
 subst o1 o2;refine⟨λmm q X=>∃T j,mm=t-j/\j<=t/\FB K H F T X q (rF o d1 (some (.int (ks j))) n) L (R j),⟨t,F2,0,rfl,Yz _,B⟩,?_⟩
 rintro mm as H3 ⟨F3,j,rfl,hj,B3⟩
 refine B3.exT (ai j hj) λH4 F4 B4=>?_;by_cases h:j<t
 ·rw[decide_eq_true h];refine iteT ⟨λq X=>∃T,FB K H F T X q (rF o d1 (some (.int (ks (j+1)))) n) L (R (j+1)),λq X ⟨T,B'⟩=>⟨t-(j+1),by omega,T,j+1,rfl,h,B'⟩,?_⟩;exact B4.drop (E:=E0) rfl (lp.th j h) (lp.sb j h) (lp.ke (j+1) h _) rfl λau H5 F5 B5=>⟨F5,B5⟩
 ·rw[decide_eq_false h];have ej:j=t:=by omega
  subst ej;exact iteF (B4.tail tl rfl h5)
end
open PySem L2 PyProof.Rows
section
variable{P:Program}{w:World}{K:vE}{mg:Str->Option Value}{base:Heap}{Γ:Nat->∅}
end
open PySem L2 PyProof.Rows
section
variable{P:Program}{w:World}{K:vE}{mg:Str->Option Value}{base:Heap}{Γ:Nat->∅}
def zsl{h:Heap}{x:Str}{d:Stmt}{e:List Str}{k:Nat}{g:Sp}(A:At K x d)(X:K.In h)(G:h.Ns mainGlobals mg)(B:Bnd x d e)(F:∀f i,Fun K x x d f i->FnOk P w K mg base CX0 k f i e g):GSp P w K mg base k x g:=by
 obtain⟨f,q,r,kV,n,s,t,o,u,p,a,l,c,j⟩:=A
 have m:=zso (st:=d) l c j;exact⟨f,_,e,F _ _ m,Jy X G a,j,m.binds B⟩
def ylf{h:Heap}{x:Str}{d:Stmt}{e:List Str}{k n:Nat}{g:∅}(A:At K x d)(X:K.In h)(G:h.Ns mainGlobals mg)(B:Bnd x d e)(F:∀f i,Fun K x x d f i->FnOk P w K mg base CX0 k f i e (spD K n g)):GFn P w K mg base k x n g:=zsl A X G B F
def SetSh(f:Stmt)(c:TC)(m:Nat)(g:Ss)(h:E)(i:Nat):Prop:=∃e mid d j l n,Bg f=e++[.Assign [.Attribute (.Name mid j) "closing" l] d n]/\trSs m c e=some g/\trE m c d=some h/\slot c mid=some i/\zfj d=false
def ylc{h:Heap}{x p:Str}{g:Stmt}{N:List Str}{k m o:Nat}{i j:List (Str×Nat×Nat)}{q:Ss}{r:E}{s:D->Addr->D->Prop}(A:At K x g)(X:K.In h)(G:h.Ns mainGlobals mg)(S:FnScope N [p] (Bd g))(B:Bnd x g [p])
 (t:SetSh g ⟨N,Bd g,i,j,true⟩ m q r o)(u:Deps P w K mg base k Γ i j true)
 (n:∀T a d,s T a d->∃e l,exs Γ q ([~~~T]++List.replicate (N.length-1) none)=some (.nx e)/\(view e)[o]? = some (some (.obj a l))/\ev Γ r (view e)=some (.val d)):GSp P w K mg base (k+1) x (zgv K s):=by
 obtain⟨L,mid,value,M,O,Q,v,z,C,F,H⟩:=t
 exact zsl A X G B λf R I=>set_ok I S v z C F (λJ=>ziv H) u n
def yhh(d:Stmt):Prop:=∃e f g h i j l m n o p q r s t u v,Bg d=[.Assign [.Attribute (.Name "self" e) "place" f] (.Name "place" g) h,.Assign [.Attribute (.Name "self" i) "side" j] (.Name "side" l) m,.Assign [.Attribute (.Name "self" n) "least" o] (.Name "least" p) q,.Assign [.Attribute (.Name "self" r) "closing" s] (.Constant .none v t) u]
def AtC(K:vE)(e:Stmt):Prop:=∃(C f:Addr) (i:Value) (j:Option Addr) (kV g l:Value) (m:Option Addr) (d n:Value) (h:Array (Option Value)),PySem.W.nsIn K mainGlobals "Bound" = some (some (.ref C))/\Cls K C/\(NoAttr K C "place" /\ NoAttr K C "side" /\ NoAttr K C "least" /\ NoAttr K C "closing")/\Mk K C f /\
 K.lookup f=some ⟨i,j,.func (PySem.W.fnOf "__init__" "Bound.__init__" (zbg e) (Bg e) (Bd e) .none kV g l m d n),h⟩/\PySem.W.codeIn K d "Bound.__init__" = true/\PySem.W.keepIn K (.ref f)=true
def AtC.bf{e:Stmt}(A:AtC K e):BFacts K:=by
 obtain⟨C,f,n,o,kV,h,p,q,i,r,j,l,m,⟨s,t,u,v⟩,_⟩:=A
 refine⟨C,l,m,λg d=>?_⟩
 simp only[flds,Zg,Zn,or_false] at d;rcases d with rfl|rfl|rfl|rfl<;>assumption
def mkb_at{h:Heap}{d:Stmt}{k:Nat}(A:AtC K d)(X:K.In h)(G:h.Ns mainGlobals mg)(S:FnScope ["self","place","side","least"] ["self","place","side","least"] (Bd d))
 (B:∀(kV g l:Value) (m:Option Addr) (i ct:Value) (j:List Value),j.length=4->bindArgs (PySem.W.fnOf "__init__" "Bound.__init__" (zbg d) (Bg d) (Bd d) .none kV g l m i ct) ⟨j,[]⟩=pure ((["self","place","side","least"]:List Str).zip j))
 (p:yhh d)(q:∀y∈(["self","place","side","least"]:List Str),(Bd d).names.lookup y=some .local):MkB P w K mg base (k+1):=by
 have bf:=A.bf;obtain⟨C,f,z,D,kV,g,l,m,i,ct,r,n,E,F,s,t,u,v⟩:=A
 obtain⟨H,I,J,L,M,N,O,Q,R,T,U,V,Y,Z,d3,d4,kn,e⟩:=p
 have o:=zso (st:=d) t u v;exact⟨C,f,_,_,n,Jy X G n,s,yla (k:=k) o S e q bf,o.binds B⟩
def yhi(h:Stmt)(c:TC)(m:Nat)(i j:Es):Prop:=∃d e p l n o f g q r s t u,Bg h=[.Expr (.Call (.Attribute (.Name "bounds" p) "pop" f) [.Name "k" l] [] g) q,.Expr (.Call (.Name "set_closing" n) [d] [] r) t,.Expr (.Call (.Name "set_closing" o) [e] [] s) u] /\
 (f.endLine == g.line)=true/\trEs m c [d]=some i/\trEs m c [e]=some j/\Bf d=true/\Bf e=true/\isGl c "set_closing" = true
def BoSh(p:Stmt)(c:TC)(m:Nat)(q:It')(r:E)(s t:Es):Prop:=∃e d f g u v w h i j z A B l n C D F G H I J K L M N O g3 P Q R o,Bg p=[.Assign [.Name "bounds" u] (.List [] v) w,
   .For (.Tuple [.Name "place" h,.Name "side" i] o j) e [.Assign [.Name "least" z] d A,.Expr (.Call (.Attribute (.Name "bounds" B) "append" l) [.Call (.Name "Bound" D) [.Name "place" F,.Name "side" G,.Name "least" H] [] I] [] n) C] [] J,
   .For (.Name "k" N) (.Call (.Name "range" O) [g] [] g3) [.Expr (.Call (.Name "set_closing" K) [f] [] L) M] [] P,
   .Return (some (.Name "bounds" Q)) R]/\(l.endLine == n.line)=true/\trI1 (trE m c) c (.Tuple [.Name "place" h,.Name "side" i] o j) e=some q/\trE m c d=some r/\zfj d=false/\zyg e=false/\trEs m c [f]=some s/\Bf f=true/\trEs m c [g]=some t/\Bf g=true /\
   isGl c "set_closing" = true/\isGl c "range" = true/\isGl c "Bound" = true
def FitSh(i:Stmt)(c:TC)(m:Nat)(g j:E)(l:Ss):Prop:=∃e d f h n o p q r s t u v w z A B C D g3,Bg i = .Assign [.Name "bounds" n] (.Call (.Name "bounds_of" o) [.Name "one" p,.Name "other" q] [] r) s :: .Assign [.Name "k" t] e u ::
   .While f [.Expr (.Call (.Name "drop" v) [.Name "bounds" w,.Name "k" z] [] A) B,.Assign [.Name "k" C] d D] [] g3::h/\slot c "one" = some 0/\slot c "other" = some 1/\slot c "bounds" = some 2/\slot c "k" = some 3/\trE m c e=some g/\trE m c d=some g/\trT m c f=some j/\trSs m c h=some l/\zfj e=false/\zfj d=false/\isGl c "bounds_of" = true/\isGl c "drop" = true
def ydv{h:Heap}{x:Str}{e:Stmt}{k m:Nat}{i j:List (Str×Nat×Nat)}{t u:Es}{q:D->Addr->D->Prop}{v:List (Addr×List D)->Int->List (Addr×List D)->Prop}(A:At K x e)(X:K.In h)(G:h.Ns mainGlobals mg)(S:FnScope ["bounds","k"] ["bounds","k"] (Bd e))(B:Bnd x e ["bounds","k"])
 (E:∀y∈(["bounds","k"]:List Str),(Bd e).names.lookup y=some .local)(F:yhi e ⟨["bounds","k"],Bd e,i,j,true⟩ m t u)(H:GSp P w K mg base k "set_closing" (zgv K q))(I:Deps P w K mg base k Γ i j true)
 (r:∀d g l,v d g l -> -(2^63)<=g/\g<2^63/\∃n z o d1 C s d2,seqIndex? g d.length=some n/\n<d.length /\
   evs Γ t [some (.lst (dOs (d.eraseIdx n))),some (.int g)]=some [z]/\q z o d1/\lf d1=true/\o∈(d.eraseIdx n).map (·.1) /\
   evs Γ u [some (.lst (dOs (setC (d.eraseIdx n) o d1))),some (.int g)]=some [C]/\q C s d2/\lf d2=true/\s∈(d.eraseIdx n).map (·.1)/\l=setC (setC (d.eraseIdx n) o d1) s d2):GSp P w K mg base (k+1) x (zkp K v):=by
 obtain⟨U,V,p,W,Y,Z,ap,cp,ep,c1,c2,q1,q2,J,L,M,N,O,Q,R⟩:=F
 exact zsl A X G B λf fd T=>ymg T S J L E M N O Q R H I r
def gbo_at{h:Heap}{x:Str}{j:Stmt}{k m:Nat}{o q:List (Str×Nat×Nat)}{N:It'}{O:E}{Q R:Es}{T:D->Addr->D->Prop}{U:D->D->List (List D)->Prop}(A:At K x j)(X:K.In h)(G:h.Ns mainGlobals mg)(S:FnScope NB ["one","other"] (Bd j))(B:Bnd x j ["one","other"])
 (W:∀y∈NB,(Bd j).names.lookup y=some .local)(Y:BoSh j ⟨NB,Bd j,o,q,true⟩ m N O Q R)(t:mg "range" = none)(Z:GSp P w K mg base k "set_closing" (zgv K T))(M:MkB P w K mg base k)(hd:Deps P w K mg base (k+1) Γ o q true)
 (u:∀n d1 V,U n d1 V->∃e g,e.length<1000/\evI Γ N [~~~n,~~~d1,none,none,none,none,none]=some (e,[~~~n,~~~d1,none,none,none,none,none])/\g.length=e.length /\
   (∀(i:Nat) (d:D),e[i]? = some d->∃p s l,d=D.tup [p,s]/\g[i]? = some [p,s,l,.non]/\∀v,ev Γ O (rB n d1 (some p) (some s) v none)=some (.val l)) /\
   (∀x3 x4 v z,z.length=e.length->evs Γ R (rhoB (rB n d1 x3 x4 v none) 2 z)=some [.int (z.length:Int)]) /\
   ∀C,C.Nodup->C.length=e.length->zzn Γ T n d1 Q e.length C g V):GSp P w K mg base (k+1+1) x (spBo K U):=by
 obtain⟨iter,r,e3,ln,a1,a2,a3,b1,b2,b3,b4,b5,b6,b7,b8,b9,c1,c2,c3,c4,c5,c6,c7,c8,c9,g1,g2,g3,g4,h1,h2,bk,q1,q2,q3,q4,q5,q6,q7,q8,q9,F,H,I,J⟩:=Y
 exact zsl A X G B λf fd Fn=>zzv Fn S q1 q2 W q3 q4 (λL=>ziv q5) (λL x=>ykd q6 x) q7 q8 q9 F H I J t Z M hd u
def ylg{h:Heap}{x:Str}{d:Stmt}{N:List Str}{k m n:Nat}{e g:List (Str×Nat×Nat)}{s t:E}{u:Ss}{v:List (Addr×List D)->Int->List (Addr×List D)->Prop}{z:D->D->List (List D)->Prop}{C:∅}(A:At K x d)(X:K.In h)(G:h.Ns mainGlobals mg)(S:FnScope N ["one","other"] (Bd d))(i:N.length=n+4)(B:Bnd x d ["one","other"])
 (J:FitSh d ⟨N,Bd d,e,g,true⟩ m s t u)(L:GSp P w K mg base k "bounds_of" (spBo K z))(M:GSp P w K mg base k "drop" (zkp K v))(O:Deps P w K mg base k Γ e g true)
 (j:∀F d1 H,C [F,d1]=some H->ztm Γ z v n s t u F d1 H):GFn P w K mg base (k+1) x 2 C:=by
 obtain⟨Q,I,R,ss,a1,a2,a3,a4,a5,a6,b1,b2,c1,c2,c3,c4,c5,g1,g2,g3,T,U,V,Y,Z,q6,q7,q8,q9,l,o,p,q⟩:=J
 exact ylf A X G B λf fd Fn=>fit_ok Fn S i T U V Y Z q6 q7 q8 q9 (λr=>ziv l) (λr=>ziv o) p q L M O j
end
end DL
namespace DL
open Sf
def fr(x:Rat):D:=.tup [.int x.num,.int (x.den:Int)]
def ixf0{z:Rat}:ixD (fr z) (.int 0)=some (.int z.num):=rfl
def ixf1{z:Rat}:ixD (fr z) (.int 1)=some (.int (z.den:Int)):=rfl
def lff{z:Rat}:lf (fr z)=true:=rfl
local macro_rules | `(tactic| walk_at "evh")=>do
 let l ← ("run_eq yln ydy ybj ybi ex_asg asgO_s ex_unp unpO_s ex_par parO_s ex_ret retO_s ylq yjd yjc ex_iff iffO_t iffO_f ex_whl ex_frr forO_s ymc yir yiq yip zuw yix zuv yiw yea yme yjs yjt evB_eq ev_var ev_int ev_bl ev_non ev_bin ev_neg ev_cmp ev_and ev_or ev_not ev_tup ev_lst ev_ix ev_sl ylw ev_bi ev_isi isiW_i isiW_b isiW_t isiW_l isiW_n ev_isx isxW_n ylo ex_app appO_s ex_pop popO_s ex_clr clrO_s ylp yil ev_fm ev_lcp lcpW zwh blkR id_eq yac yab zcl setE_0 setE_s ylv ylu yly zsu ydz seqB_l seqB_t seqB_o seqD zyx zst ylt yls evd evb bin2_s un1_s andO_t andO_f orO_t orO_f appL_s ymk slO_s cmpW ixW negW notW_s tupW lstW varD_0 varD_s yar zvq setR_0 setR_s yfa yez zgg ynp ynq yno after lfW lf lfL Wd_v Wd_n Wb_v Wb_n Bd_s Bd_o DL.op_add DL.op_sub DL.op_mul DL.op_fdiv DL.op_mod zbz zmi zeo Bx op_p4 op_p5 op_p6 op_p9 op_p10 op_p18 eqL eqD dOkL dOk beq_self_eq_true Bool.and_self op_p30 op_p60 op_p64 Int.reduceEq Int.reduceLT Int.reduceLE Int.reduceNeg Int.reduceAdd Int.reduceSub Int.reduceMul Int.reduceToNat Int.reducePow Int.reduceMod Int.reduceDiv cs0 cs1 cs2 cs3 cs4 cs5 cs6 cs7 cs8 cs9 cs10 cs11 cs12 Nat.reduceSub cm_lt cm_le cm_gt cm_ge cm_eq cm_ne cm_eqB cm_neB cm_eqT cm_neT cm_eqL ygz cm_in cm_nin cm_isN ymt biW lenW absW minW maxW ixD_t ixD_l ixf0 ixf1 lff slD_l ymj ygx isTy zor Zz Wy List.cons_append List.nil_append K3 Zq Kx Qi Wa List.set_cons_zero List.set_cons_succ Y7 Option.map_none Ya Um List.replicate if_true if_false Nat.reduceAdd Nat.reduceLT Nat.reduceLeDiff Y4 reduceCtorEq decide_true decide_false Bool.not_true Bool.not_false Bool.and_true Bool.true_and Bool.and_false Bool.false_and ne_eq not_false_eq_true and_self and_true true_and Nat.reduceEqDiff Nat.zero_ne_one Nat.one_ne_zero sl0 sl1 sl2 sl3 sl4 sl5 sl6 sl7 sl8 sl9 at1_0 at2_0 at2_1 at3_0 at3_1 at3_2 at4_0 at4_1 at4_2 at4_3 at5_0 at5_1 at5_2 at5_3 at5_4 at6_0 at6_1 at6_2 at6_3 at6_4 at6_5 ev_fld fldO_s ev_ife ymb ylx zipO sqD ev_idx ylz zkw sumW".splitOn " ").toArray.mapM λs=>`(Lean.Parser.Tactic.simpLemma| $(Lean.mkIdent s.toName):term)
 `(tactic| simp only[$l,*, *])
open Sf
def dTup:D->Option (List D)
 |.tup l=>some l
 |_=>none
def dTwo:List D->Option (D×D)
 |[a,b]=>some (a,b)
 |_=>none
def dTup_s{d:D}{l:List D}(h:dTup d=some l):d=.tup l:=by cases d<;>first|(cases h;rfl)|(cases h;done)
def dTwo_s{l:List D}{p:D×D}(h:dTwo l=some p):l=[p.1,p.2]:=by
 cases l with
 |nil=>cases h
 |cons a l=>
  cases l with
  |nil=>cases h
  |cons b l=>
   cases l with
   |nil=>cases h;rfl
   |cons _ _=>cases h
def asFr(d:D):Option Rat:=(dTup d).bind λl=>(dTwo l).bind λz=>(dInt z.1).bind λp=>(dInt z.2).bind λq=>if 0<q/\Int.gcd p q=1 then some (Rat.divInt p q) else none
def yak(x:Rat):asFr (fr x)=some x:=by
 have f:=zcp x;show(if 0<(x.den:Int)/\Int.gcd x.num (x.den:Int)=1 then some (Rat.divInt x.num (x.den:Int)) else none)=some x;rw[if_pos ⟨f.pos,f.co⟩,Yq]
def zjw{d:D}{x:Rat}(h:asFr d=some x):d=fr x:=by
 obtain⟨l,e,h⟩:=Za.mp h
 obtain⟨z,f,h⟩:=Za.mp h
 obtain⟨p,g,h⟩:=Za.mp h
 obtain⟨q,i,h⟩:=Za.mp h
 split at h
 ·rename_i y;cases h;obtain⟨a,b⟩:=rat_of ⟨y.1,y.2⟩
  rw[dTup_s e,dTwo_s f,zdn g,zdn i];unfold fr;rw[a,b]
 ·cases h
def okR(x:Rat):Bool:=decide (x.num.natAbs<2^4400) && decide (x.den<2^4400)
def ygg{n:Nat}{x:Rat}(h:Sz n x)(k:n<=4400):okR x=true:=by
 have:=h.mono k
 unfold okR;rw[Zj];exact⟨decide_eq_true this.t,decide_eq_true this.b⟩
def ygf{x:Rat}(h:okR x=true):Sz 4400 x:=by
 unfold okR at h;rw[Zj] at h;exact⟨of_decide_eq_true h.1,of_decide_eq_true h.2⟩
def Bj{a b:Int}{m n:Nat}(d:a.natAbs<2^m)(e:b.natAbs<2^n)(f:m<=16000)(g:n<=16000):Bn a b=true:=by
 unfold Bn;rw[Zj];exact⟨decide_eq_true (Zf d (Bo f)),decide_eq_true (Zf e (Bo g))⟩
def zbf{b:Int}{n:Nat}(d:b≠0)(e:b.natAbs<2^n)(f:n<=9000):zbm b=true:=by
 unfold zbm;rw[Zj];exact⟨decide_eq_true d,decide_eq_true (Zf e (Bo f))⟩
section
variable{Γ:Nat->∅}
def Bs:∅
 |[.int a,.int b]=>some (.val (.int (gc a b)))
 |_=>none
def zvp(a b:Option B):∀(m:Nat) (n:Nat),n<=m->∀(g:Int) (r:Option B),0<=g->∃f,zaw (evB Γ (.cmp .ne (.var 3) (.int 0))) (exs Γ #v[.asg 4 (.bin .mod (.var 2) (.var 3)),.asg 2 (.var 3),.asg 3 (.var 4)]) (m+1)
  [a,b,~~~.int g,~~~.int (n:Int),r]=some (.nx [a,b,~~~.int (gc g n),~~~.int 0,f]):=by
 intro m;induction m with
 |zero=>
  intro n i g r h;obtain rfl:n=0:=by omega
  refine⟨r,?_⟩
  unfold zaw;walk_at "evh"
  simp[zmg h]
 |succ m j=>
  intro n i g r h;unfold zaw;walk_at "evh"
  by_cases o:n=0
  ·subst o;refine⟨r,?_⟩
   simp[zmg h]
  ·have d:¬((n:Int)=0):=by omega
   simp only[d,decide_false,Bool.not_false,if_false];walk_at "evh"
   have e:g.fmod (n:Int)=((g%(n:Int)).toNat:Int):=by
    rw[Q0 _ vB];have:=Wu g d
    omega
   have l:(g%(n:Int)).toNat<=m:=by
    have:=Kg g (show(0:Int)<n by omega)
    have:=Wu g d
    omega
   obtain⟨f,q⟩:=j _ l (n:Int) (~~~.int ((g%(n:Int)).toNat:Int)) vB
   refine⟨f,?_⟩
   rw[e,q];have p:(((g%(n:Int)).toNat:Nat):Int)=g%n:=by have:=Wu g d;omega
   rw[p,zqq]
def zhx(b:Int):(if b<0 then -b else b)=((b.natAbs:Nat):Int):=by split<;>omega
def ok_divisor:∀d w,d.length=2->Bs d=some w->run Γ zfs 5 d=some w:=by
 intro d w _ h;unfold Bs at h;split at h
 ·rename_i a b _;cases h;unfold zfs;walk_at "evh"
  obtain⟨e,q⟩:=zvp (Γ:=Γ) (~~~.int a) (~~~.int b) b.natAbs b.natAbs (Zk _) (if a<0 then -a else a) none (by split<;>omega)
  rw[zhx b,zhz q];walk_at "evh"
  rw[<-zhx b,ygn]
 ·cases h
def zkz:∀(m:Nat) (n:Nat),n<=m->∀(g:Int),0<=g->zaw (evB Γ (.cmp .gt (.var 1) (.int 0))) (exs Γ #v[.par 0 1 (.var 1) (.bin .mod (.var 0) (.var 1))]) (m+1)
  [~~~.int g,~~~.int (n:Int)]=some (.nx [~~~.int (gc g n),~~~.int 0]):=by
 intro m;induction m with
 |zero=>
  intro n i g f;obtain rfl:n=0:=by omega
  unfold zaw;walk_at "evh"
  simp[zmg f]
 |succ m j=>
  intro n i g f;unfold zaw;walk_at "evh"
  by_cases o:n=0
  ·subst o;simp[zmg f]
  ·have d:¬((n:Int)=0):=by omega
   have p:(0:Int)<n:=by omega
   simp only[d,p,decide_true,if_false];walk_at "evh"
   have e:g.fmod (n:Int)=((g%(n:Int)).toNat:Int):=by
    rw[Q0 _ vB];have:=Wu g d
    omega
   have l:(g%(n:Int)).toNat<=m:=by
    have:=Kg g (show(0:Int)<n by omega)
    have:=Wu g d
    omega
   have q:=j _ l (n:Int) vB;have h:(((g%(n:Int)).toNat:Nat):Int)=g%n:=by have:=Wu g d;omega
   rw[h] at q;first
    |(rw[e,h,q,zqq])
    |(rw[q,zqq])
def ok_law_divisor:∀d w,d.length=2->Bs d=some w->run Γ zca 2 d=some w:=by
 intro d w _ h;unfold Bs at h;split at h
 ·rename_i a b _;cases h;unfold zca;walk_at "evh"
  have q:=zkz (Γ:=Γ) b.natAbs b.natAbs (Zk _) (if a<0 then -a else a) (by split<;>omega);rw[zhx b,zhz q];walk_at "evh"
  rw[<-zhx b,ygn]
 ·cases h
end
set_option exponentiation.threshold 20000
open Sf
def zat{a b:Int}:Bs [.int a,.int b]=some (.val (.int (gc a b))):=rfl
section
variable{Γ:Nat->∅}
def zct:∅
 |[.int t,.int b]=>if b≠0/\b.natAbs<2^9000 then some (.val (fr (Rat.divInt t b))) else none
 |_=>none
def zuu{t b:Int}(h:b≠0):(gc t b).natAbs<=b.natAbs:=by
 have:=Y0 t b
 exact zaj this h
def zsx{t b:Int}(h:b≠0)(d:b.natAbs<2^9000):zbm (gc t b)=true/\zbm (-(gc t b))=true:=by
 have p:=zdm (a:=t) h;have l:=zuu (t:=t) h;exact⟨zbf (n:=9000) vB vB (Zk _),zbf (n:=9000) vB (by rw[Kq];omega) (Zk _)⟩
def ygq{t b:Int}(h:b≠0):fr (Rat.divInt t b)=.tup [.int (low1 t b),.int (low2 t b)]:=by
 obtain⟨a,c⟩:=ykq (t:=t) h
 unfold fr;rw[a,c]
def ok_ratio(f:Γ 0=Bs):∀d w,d.length=2->zct d=some w->run Γ zmw 3 d=some w:=by
 intro d w _ h;unfold zct at h;split at h
 ·rename_i t b _;split at h
  ·rename_i z;cases h;unfold zmw;walk_at "evh"
   try simp only[z.1,decide_false]
   try walk_at "evh"
   simp only[f,zat];walk_at "evh"
   obtain⟨g,i⟩:=zsx (t:=t) z.1 z.2
   rw[ygq z.1];unfold low1 low2 by_;by_cases e:b<0
   ·simp only[e,decide_true];walk_at "evh"
    try simp only[i]
    try walk_at "evh"
   ·simp only[e,decide_false];walk_at "evh"
    try simp only[g]
    try walk_at "evh"
  ·cases h
 ·cases h
def fr2(C:Rat->Rat->Bool)(g:Rat->Rat->D):∅
 |[a,b]=>match asFr a,asFr b with
  |some x,some y=>if C x y=true then some (.val (g x y)) else none
  |_,_=>none
 |_=>none
def zcj{C:Rat->Rat->Bool}{g:Rat->Rat->D}{d:List D}{w:W}(h:fr2 C g d=some w):∃x y,d=[fr x,fr y]/\C x y=true/\w=.val (g x y):=by
 unfold fr2 at h;split at h
 ·split at h
  ·rename_i x y e f;split at h
   ·rename_i z;cases h;exact⟨x,y,by rw[zjw e,zjw f],z,rfl⟩
   ·cases h
  ·cases h
 ·cases h
def zal{C:Rat->Rat->Bool}{g:Rat->Rat->D}{x y:Rat}(h:C x y=true):fr2 C g [fr x,fr y]=some (.val (g x y)):=by
 unfold fr2;simp only[yak,h,if_true]
def okRR(x y:Rat):Bool:=okR x && okR y
def Bw{m n:Nat}{x y:Rat}(d:Sz m x)(e:Sz n y)(f:m<=4400)(g:n<=4400):okRR x y=true:=by
 unfold okRR;rw[ygg d f,ygg e g];rfl
def zdj{x y:Rat}(h:okRR x y=true):Sz 4400 x/\Sz 4400 y:=by
 unfold okRR at h;rw[Zj] at h;exact⟨ygf h.1,ygf h.2⟩
def zhb:∅:=fr2 okRR λx y=>fr (x+y)
def zaq:∅:=fr2 okRR λx y=>fr (x-y)
def zae:∅:=fr2 okRR λx y=>fr (x*y)
def zlw:∅:=fr2 (λx y=>okRR x y && decide (y≠0)) λx y=>fr (x/y)
def zgn:∅:=fr2 okRR λx y=>.bl (decide (x<y))
def den_pos(x:Rat):(0:Int)<x.den:=(zcp x).pos
def ok_plus(A:Γ 0=Bs):∀g w,g.length=2->zhb g=some w->run Γ ztk 5 g=some w:=by
 intro g w _ h;obtain⟨x,y,rfl,j,rfl⟩:=zcj h
 obtain⟨sx,sy⟩:=zdj j
 have o:=den_pos x;have q:=den_pos y;have f:(y.den:Int)≠0:=by omega
 have i:=zdm (a:=(x.den:Int)) f;have r:=zuu (t:=(x.den:Int)) f;have B:((y.den:Int)).natAbs=y.den:=Yk _;have C:zbm (gc x.den y.den)=true:=zbf (n:=4400) vB (by have:=sy.b;omega) vA;have e:∀{p s:Int},0<s->(p.fdiv s).natAbs<=p.natAbs:=λ{p s} u=>by
  rw[Vf _ (W4 u)];have:=Int.natAbs_ediv_le_natAbs p s
  exact this
 have l1:=e (p:=(y.den:Int)) i;have l2:=e (p:=(x.den:Int)) i;have D:((x.den:Int)).natAbs=x.den:=Yk _;have E:Bn x.num ((y.den:Int).fdiv (gc x.den y.den))=true:=Bj sx.t (n:=4400) (by have:=sy.b;omega) vA vA;have F:Bn y.num ((x.den:Int).fdiv (gc x.den y.den))=true:=Bj sy.t (n:=4400) (by have:=sx.b;omega) vA vA;have d:gc (x.den:Int) y.den≠0:=by omega
 have l:=zdm (a:=addT x.num x.den y.num y.den) d;have v:=zuu (t:=addT x.num x.den y.num y.den) d;have G:zbm (gc (addT x.num x.den y.num y.den) (gc x.den y.den))=true:=zbf (n:=4400) vB (by have:=sy.b;omega) vA;have z:=e (p:=(y.den:Int)) l;have H:Bn ((x.den:Int).fdiv (gc x.den y.den)) ((y.den:Int).fdiv (gc (addT x.num x.den y.num y.den) (gc x.den y.den)))=true:=Bj (m:=4400) (n:=4400) (by have:=sx.b;omega) (by have:=sy.b;omega) vA vA;obtain⟨I,J⟩:=ynr x y
 have K:x.num*(y.den:Int).fdiv (gc x.den y.den)+y.num*(x.den:Int).fdiv (gc x.den y.den)=addT x.num x.den y.num y.den:=rfl;have L:=@zat;clear j h o q sx sy f i r d l v l1 l2 z e;unfold ztk;simp only[fr];walk_at "evh"
 rfl
def ok_minus(f:Γ 9=zhb):∀d w,d.length=2->zaq d=some w->run Γ zmx 2 d=some w:=by
 intro d w _ h;obtain⟨x,y,rfl,g,rfl⟩:=zcj h
 obtain⟨sx,sy⟩:=zdj g
 unfold zmx;simp only[fr];walk_at "evh"
 have e:(D.tup [.int (-y.num),.int (y.den:Int)])=fr (-y):=rfl;have i:(D.tup [.int x.num,.int (x.den:Int)])=fr x:=rfl;have q:zhb [fr x,fr (-y)]=some (.val (fr (x + -y))):=zal (Bw sx sy.neg (Zk _) (Zk _));simp only[f,e,i,q];walk_at "evh"
 rw[Ke];rfl
def ok_times(f:Γ 1=zct):∀d w,d.length=2->zae d=some w->run Γ zmv 2 d=some w:=by
 intro d w _ h;obtain⟨x,y,rfl,g,rfl⟩:=zcj h
 obtain⟨sx,sy⟩:=zdj g
 have o:=den_pos x;have p:=den_pos y;have i:Bn x.num y.num=true:=Bj sx.t sy.t vA vA;have j:Bn (x.den:Int) y.den=true:=Bj (m:=4400) (n:=4400) (by rw[Yk];exact sx.b) (by rw[Yk];exact sy.b) vA vA;have l:((x.den:Int)*y.den).natAbs<2^9000:=by
  rw[Zu,Yk,Yk];exact Zf (B9 sx.b sy.b) (Bo vA)
 have e:(x.den:Int)*y.den≠0:=Ym vB vB;unfold zmv;simp only[fr];walk_at "evh"
 try simp only[i,j]
 try walk_at "evh"
 have q:zct [.int (x.num*y.num),.int ((x.den:Int)*y.den)]=some (.val (fr (x*y))):=by
  show(if _ then _ else _)=_;rw[if_pos ⟨e,l⟩,<-zqi]
 simp only[f,q];walk_at "evh"
 rfl
end
set_option exponentiation.threshold 20000
open Sf
section
variable{Γ:Nat->∅}
def isInt:D->Bool
 |.int _=>true
 |_=>false
def zfc:∅
 |[.exc _]=>none
 |[.obj _ _]=>none
 |[d]=>some (.val (.bl (isInt d)))
 |_=>none
def ok_law_whole:∀e w,e.length=1->zfc e=some w->run Γ zdc 1 e=some w:=by
 intro e w _ h;unfold zfc at h;split at h
 ·cases h
 ·cases h
 ·rename_i d f g _;cases h;unfold zdc;cases d with
  |exc x=>exact absurd rfl (f x)
  |obj a l=>exact absurd rfl (g a l)
  |_=>walk_at "evh"; rfl
 ·cases h
def zse{i:Int}:zfc [.int i]=some (.val (.bl true)):=rfl
def zfi:∅
 |[d]=>match asFr d with
  |some x=>some (.val (.bl true))
  |none=>none
 |_=>none
def ok_law_is_fraction(g:Γ 3=zfc)(f:Γ 12=Bs):∀d w,d.length=1->zfi d=some w->run Γ zav 1 d=some w:=by
 intro d w _ h;unfold zfi at h;split at h
 ·split at h
  ·rename_i x e;cases h;have i:=@zat;have j:=@zse;have l:=den_pos x;have m:gc x.num x.den=1:=by
    show((Int.gcd x.num x.den:Nat):Int)=1;rw[(zcp x).co];rfl
   rw[zjw e];clear e;unfold zav;simp only[fr];walk_at "evh"
  ·cases h
 ·cases h
end
set_option exponentiation.threshold 20000
open Sf
section
variable{Γ:Nat->∅}
def zam{a b:Int}{m n:Nat}(h:a.natAbs<2^m)(k:b.natAbs<2^n):(a*b).natAbs<2^(m+n):=by
 rw[Zu];exact B9 h k
end
set_option exponentiation.threshold 20000
open Sf
section
variable{Γ:Nat->∅}
end
open Sf
section
variable{Γ:Nat->∅}
end
open Sf
section
variable{Γ:Nat->∅}
end
open Sf
section
variable{Γ:Nat->∅}
end
open Sf
section
variable{Γ:Nat->∅}
def Bh{x:Rat}{n:Nat}(h:Sz n x):((x.den:Int)).natAbs<2^n:=by rw[Yk];exact h.b
def zsf(x y:Rat):decide (x<y)=decide (x.num*(y.den:Int)<y.num*(x.den:Int)):=by
 rw[K4];simp only[decide_eq_true_eq];exact Rat.lt_iff x y
def num_zero{y:Rat}:y.num=0↔y=0:=Rat.num_eq_zero
def ok_over(m:Γ 1=zct):∀d w,d.length=2->zlw d=some w->run Γ ztl 2 d=some w:=by
 intro d w _ h;obtain⟨x,y,e,f,l⟩:=zcj h
 subst e;subst l;rw[Zj] at f;obtain⟨sx,sy⟩:=zdj f.1
 have g:y≠0:=of_decide_eq_true f.2;have i:y.num≠0:=λz=>g (num_zero.mp z)
 have n:Bn x.num (y.den:Int)=true:=Bj sx.t (Bh sy) vA vA;have o:Bn (x.den:Int) y.num=true:=Bj (Bh sx) sy.t vA vA;have j:(x.den:Int)*y.num≠0:=λz=>by
  rcases Vb.mp z with z|z
  ·have:=den_pos x;omega
  ·exact i z
 have r:zct [.int (x.num*y.den),.int (x.den*y.num)]=some (.val (fr (x/y))):=by
  unfold zct;simp only
  rw[if_pos ⟨j,by rw[Zu];exact Zf (B9 (Bh sx) sy.t) (Bo vA)⟩,zza g]
 clear sx sy f j i g h;unfold ztl;walk_at "evh"
def ok_below:∀d w,d.length=2->zgn d=some w->run Γ zer 2 d=some w:=by
 intro d w _ h;obtain⟨x,y,e,f,g⟩:=zcj h
 subst e;subst g;obtain⟨sx,sy⟩:=zdj f
 have i:Bn x.num (y.den:Int)=true:=Bj sx.t (Bh sy) vA vA;have j:Bn y.num (x.den:Int)=true:=Bj sy.t (Bh sx) vA vA;rw[zsf];clear sx sy f h;unfold zer;walk_at "evh"
end
open Sf
section
variable{Γ:Nat->∅}
def yag{d:Type}{l:List d}{i:Int}(e:0<=i)(f:i<l.length):L2.atI l i=l[i.toNat]?:=by
 unfold L2.atI L2.ixN;rw[if_pos e,if_pos f,Ya]
end
open Sf
section
variable{Γ:Nat->∅}
end
open Sf
section
variable{Γ:Nat->∅}
end
open Sf
def stD(q:Rat×Rat):D:=.tup [fr q.1,fr q.2]
def lf_stD(q:Rat×Rat):lf (stD q)=true:=rfl
theorem zjd:∀l:List (Rat×Rat),lfL (l.map stD)=true
 |[]=>rfl
 |p::l=>by rw[Zz];unfold lfL;rw[lf_stD,zjd l];rfl
section
variable{Γ:Nat->∅}
def ydb{t b:Int}(h:b≠0)(d:b.natAbs<2^9000):zct [.int t,.int b]=some (.val (fr (Rat.divInt t b))):=by
 unfold zct;simp only
 rw[if_pos ⟨h,d⟩]
end
open Sf
mutual
theorem zsv:∀(n:Nat) (d:D),dOk n d=true->eqD d d=true
 |_,.non,_=>rfl
 |_,.bl b,_=>by simp only[eqD,beq_self_eq_true]
 |_,.int i,_=>by simp[eqD]
 |0,.tup l,h=>by simp only[dOk] at h;cases h
 |n+1,.tup l,h=>by
  simp only[dOk] at h;simp only[eqD];exact eqL_self n l h
 |0,.lst l,h=>by simp only[dOk] at h;cases h
 |n+1,.lst l,h=>by
  simp only[dOk] at h;simp only[eqD];exact eqL_self n l h
 |_,.exc x,h=>by simp only[dOk] at h;cases h
theorem eqL_self:∀(n:Nat) (l:List D),dOkL n l=true->eqL l l=true
 |_,[],_=>by simp only[eqL]
 |n,d::l,h=>by
  simp only[dOkL,Zj] at h;simp only[eqL,Zj];exact⟨zsv n d h.1,eqL_self n l h.2⟩
end
def SzL(n:Nat)(l:List (Rat×Rat)):Prop:=∀q∈l,Sz n q.1/\Sz n q.2
section
variable{Γ:Nat->∅}
end
open Sf
section
variable{Γ:Nat->∅}
end
open Sf
theorem zsq{j:D->RhoS->Option RhoS}{m:RhoS->Option Out}{I:RhoS->Prop}:∀(l:List D),(∀d∈l,∀e,I e->∃i f,j d e=some i/\m i=some (.nx f)/\I f)->∀e,I e->∃g,forN j m l e=some (.nx g)/\I g
 |[],_,e,h=>⟨e,rfl,h⟩
 |d::l,n,e,h=>by
  obtain⟨i,f,o,p,q⟩:=n d (.head _) e h
  obtain⟨g,r,s⟩:=zsq l (λx t=>n x (.tail _ t)) f q
  refine⟨g,?_,s⟩
  unfold forN;rw[o];simp only
  rw[p];exact r
abbrev H3:=Int×Int×Int
def hD(h:H3):D:=.tup [.int h.1,.int h.2.1,.int h.2.2]
structure HB(n:Nat)(h:H3):Prop where
 a:h.1.natAbs<2^n
 b:h.2.1.natAbs<2^n
 c:h.2.2.natAbs<2^n
def oR(a b c:Rat×Rat):Rat:=(b.1-a.1)*(c.2-a.2)-(b.2-a.2)*(c.1-a.1)
def ltR(a b:Rat×Rat):Prop:=a.1<b.1\/(a.1=b.1/\a.2<b.2)
def cast_pos{i:Int}:(0:Rat)<(i:Rat)↔0<i:=by
 rw[show(0:Rat)=((0:Int):Rat) from rfl,Z9]
def zxp(x:Rat):(x.num:Rat)=x*((x.den:Int):Rat):=by
 have d:=cast_pos.mpr (den_pos x);have h:((x.den:Int):Rat)≠0:=λz=>by rw[z] at d;exact absurd d vA
 have e:x=(x.num:Rat)/((x.den:Int):Rat):=by
  conv=>lhs;rw[<-Vj x,Rat.mkRat_eq_div]
  rw[Gi]
 have f:x*((x.den:Int):Rat)=(x.num:Rat)/((x.den:Int):Rat)*((x.den:Int):Rat):=by
  conv=>lhs;lhs;rw[e]
 rw[f,Gu h]
section
variable{Γ:Nat->∅}
structure IsShp(l:List (Rat×Rat)):Prop where
 three:3<=l.length
 first:∀k q0 q,l[0]? = some q0->l[k+1]? = some q->ltR q0 q
 conv:∀k a b c,l[(k+l.length-1)%l.length]? = some a->l[k]? = some b->c∈l->c≠a->c≠b->0<oR a b c
end
open Sf
section
variable{Γ:Nat->∅}
end
open Sf
section
variable{Γ:Nat->∅}
end
open Sf
def cut_to{l:List D}{a:Nat}(h:a<=l.length):cutD l none (some (a:Int))=l.take a:=by
 unfold cutD;rw[HT.sIx_none,HT.sIx_nat,List.drop_zero,Nat.sub_zero,Js h]
def ztb{l:List D}{a:Nat}(h:a<=l.length):cutD l (some (a:Int)) none=l.drop a:=by
 unfold cutD;rw[HT.sIx_none,HT.sIx_nat,Js h,Jj (by rw[Yo];exact Zk _)]
section
variable{Γ Γ':Nat->∅}
end
open Sf
def t3(a b c:Rat):H3:=(a.num*((b.den:Int)*(c.den:Int)),b.num*((a.den:Int)*(c.den:Int)),c.num*((a.den:Int)*(b.den:Int)))
def g3(t:H3):Int:=gc (gc (gc 0 t.1) t.2.1) t.2.2
def low3(a b c:Rat):H3:=((t3 a b c).1.fdiv (g3 (t3 a b c)),(t3 a b c).2.1.fdiv (g3 (t3 a b c)),(t3 a b c).2.2.fdiv (g3 (t3 a b c)))
def zsn(t:H3):g3 t∣t.1/\g3 t∣t.2.1/\g3 t∣t.2.2:=by
 unfold g3 gc;have d:=Wl (a:=((Int.gcd (Int.gcd 0 t.1:Int) t.2.1:Nat):Int)) (b:=t.2.2);have e:=Wl (a:=((Int.gcd 0 t.1:Nat):Int)) (b:=t.2.1);have f:=Y0 (a:=0) (b:=t.1);have g:=Y0 (a:=((Int.gcd 0 t.1:Nat):Int)) (b:=t.2.1);have h:=Y0 (a:=((Int.gcd (Int.gcd 0 t.1:Int) t.2.1:Nat):Int)) (b:=t.2.2);exact⟨Y6 d (Y6 e f),Y6 d g,h⟩
def dvd_g3{t:H3}{d:Int}(e:d∣t.1)(f:d∣t.2.1)(g:d∣t.2.2):d∣g3 t:=by
 unfold g3 gc;exact Qv (Qv (Qv (Int.dvd_zero d) e) f) g
def ygo{t:H3}(h:t.1≠0\/t.2.1≠0\/t.2.2≠0):0<g3 t:=by
 have m:0<=g3 t:=Yr _;have n:g3 t≠0:=λe=>by
  obtain⟨d,f,g⟩:=zsn t
  rw[e] at d f g;have i:=V6.mp d;have j:=V6.mp f;have l:=V6.mp g;rcases h with h|h|h
  ·exact h i
  ·exact h j
  ·exact h l
 omega
structure Low3(a b c:Rat)(t:H3):Prop where
 co:gc (gc t.1 t.2.1) t.2.2=1
 scale:∃k:Rat,0<k/\(t.1:Rat)=k*a/\(t.2.1:Rat)=k*b/\(t.2.2:Rat)=k*c
def zya{a b c:Rat}(h:a≠0\/b≠0):Low3 a b c (low3 a b c):=by
 have t:=den_pos a;have u:=den_pos b;have v:=den_pos c;have l:(t3 a b c).1≠0\/(t3 a b c).2.1≠0\/(t3 a b c).2.2≠0:=by
  rcases h with h|h
  ·left
   exact Ym (λe=>h (num_zero.mp e)) (Ym vB vB)
  ·right;left
   exact Ym (λe=>h (num_zero.mp e)) (Ym vB vB)
 have w:=ygo l;obtain⟨⟨x,m⟩,⟨y,n⟩,⟨z,o⟩⟩:=zsn (t3 a b c)
 have B:(t3 a b c).1.fdiv (g3 (t3 a b c))=x:=by
  conv=>lhs;lhs;rw[m]
  exact Zw _ vB
 have C:(t3 a b c).2.1.fdiv (g3 (t3 a b c))=y:=by
  conv=>lhs;lhs;rw[n]
  exact Zw _ vB
 have D:(t3 a b c).2.2.fdiv (g3 (t3 a b c))=z:=by
  conv=>lhs;lhs;rw[o]
  exact Zw _ vB
 unfold low3;rw[B,C,D];generalize E:g3 (t3 a b c)=g at *;refine⟨?_,?_⟩
 ·have F:0<=gc (gc x y) z:=gc_nn _ _;have G:gc (gc x y) z∣z:=Y0 _ _;have r:gc (gc x y) z∣gc x y:=Wl _ _;have H:gc (gc x y) z∣x:=Y6 r (Wl _ _);have I:gc (gc x y) z∣y:=Y6 r (Y0 _ _);simp only
  generalize gc (gc x y) z=d at *;have s:g*d∣g3 (t3 a b c):=dvd_g3 (by rw[m];exact J0 g H) (by rw[n];exact J0 g I) (by rw[o];exact J0 g G);rw[E] at s;obtain⟨k,J⟩:=s
  have:d*k=1:=by
   apply Int.eq_of_mul_eq_mul_left (show g≠0 by omega)
   rw[<-Ui,<-J,J3]
  exact Int.eq_one_of_mul_eq_one_right F this
 ·have p:(0:Rat)<(g:Rat):=cast_pos.mpr w;have gi:=Jf.mpr p;have f:(g:Rat)≠0:=λe=>by rw[e] at p;exact absurd p vA
  have A:=cast_pos.mpr t;have K:=cast_pos.mpr u;have L:=cast_pos.mpr v;refine⟨((a.den:Int):Rat)*((b.den:Int):Rat)*((c.den:Int):Rat)*(g:Rat)⁻¹,Z6 (Z6 (Z6 A K) L) gi,?_,?_,?_⟩
  ·have q:((t3 a b c).1:Rat)=(g:Rat)*(x:Rat):=by rw[m,Zy]
   have i:((t3 a b c).1:Rat)=a*((a.den:Int):Rat)*(((b.den:Int):Rat)*((c.den:Int):Rat)):=by
    unfold t3;simp only[Zy];rw[zxp a]
   have j:(x:Rat)=(g:Rat)⁻¹*((g:Rat)*(x:Rat)):=by rw[<-Kw,Ug _ f,Gh]
   simp only
   rw[j,<-q,i];grind
  ·have q:((t3 a b c).2.1:Rat)=(g:Rat)*(y:Rat):=by rw[n,Zy]
   have i:((t3 a b c).2.1:Rat)=b*((b.den:Int):Rat)*(((a.den:Int):Rat)*((c.den:Int):Rat)):=by
    unfold t3;simp only[Zy];rw[zxp b]
   have j:(y:Rat)=(g:Rat)⁻¹*((g:Rat)*(y:Rat)):=by rw[<-Kw,Ug _ f,Gh]
   simp only
   rw[j,<-q,i];grind
  ·have q:((t3 a b c).2.2:Rat)=(g:Rat)*(z:Rat):=by rw[o,Zy]
   have i:((t3 a b c).2.2:Rat)=c*((c.den:Int):Rat)*(((a.den:Int):Rat)*((b.den:Int):Rat)):=by
    unfold t3;simp only[Zy];rw[zxp c]
   have j:(z:Rat)=(g:Rat)⁻¹*((g:Rat)*(z:Rat)):=by rw[<-Kw,Ug _ f,Gh]
   simp only
   rw[j,<-q,i];grind
def t3_bd{n:Nat}{a b c:Rat}(d:Sz n a)(e:Sz n b)(f:Sz n c):HB (n+(n+n)) (t3 a b c):=
 ⟨zam d.t (zam (Bh e) (Bh f)),zam e.t (zam (Bh d) (Bh f)),zam f.t (zam (Bh d) (Bh e))⟩
section
variable{Γ:Nat->∅}
def zql:∅:=run (tab [(0,Bs)]) zan 6
def ok_lowest_whole(e:Γ 0=Bs):∀d w,d.length=1->zql d=some w->run Γ zan 6 d=some w:=λd w _ h=>zbx [(0,Bs)] (by intro p f;rcases Zs.mp f with rfl;exact e) vA d w h
def zqr{x d y:Int}(f:d≠0)(e:x=d*y):x.fdiv d=y:=by rw[e];exact Zw _ f
abbrev cLw:E:=(.comp (.bin .mul (.ix (.var 1) (.int 0)) (.bin .fdiv (.var 2) (.ix (.var 1) (.int 1)))) (.name 1) (.seqV 0) 2 [1] .non)
abbrev fLw:E:=(.fm .tupl #v[.comp (.bin .fdiv (.var 1) (.var 2)) (.name 1) (.seqV 3) 2 [4] .non])
def ydf(r:Γ 0=Bs){h B1 C1:D}{a b c i j l g:Int}{O:D}(s:ixD h (.int 1)=some (.int a))(t:ixD B1 (.int 1)=some (.int b))(w:ixD C1 (.int 1)=some (.int c))(A:lf h=true)(C:lf B1=true)(F:lf C1=true)(G:Bn 1 a=true)(H:1*a=a)(I:Bn a b=true)(J:Bn (a*b) c=true)
 (o:∀x y u v,ev Γ cLw [some (.tup [h,B1,C1]),some (.int (a*b*c)),x,y,u,v]=some (.new [.int i,.int j,.int l]))(p:∀x y z u,ev Γ fLw [x,y,z,some (.lst [.int i,.int j,.int l]),some (.int g),u]=some (.val O))(K:gc (gc (gc 0 i) j) l=g):run Γ zan 6 [.tup [h,B1,C1]]=some (.val O):=by
 have q:∀a b c d e f:Option B,frz [a,b,c,d,e,f]=[a.map λx=>.sh x.d,b.map λx=>.sh x.d,c.map λx=>.sh x.d,d.map λx=>.sh x.d,e.map λx=>.sh x.d,f.map λx=>.sh x.d]:=λ_ _ _ _ _ _=>rfl
 have L:=@zat;unfold zan;unfold cLw at o;unfold fLw at p;generalize m:E.comp (.bin .mul (.ix (.var 1) (.int 0)) (.bin .fdiv (.var 2) (.ix (.var 1) (.int 1)))) (.name 1) (.seqV 0) 2 [1] .non=M at *;generalize n:E.fm .tupl _=N at *;clear m n;walk_at "evh"
 unfold forN;walk_at "evh"
 unfold forN;walk_at "evh"
 unfold forN;walk_at "evh"
 unfold forN;walk_at "evh"
 unfold forN;walk_at "evh"
 unfold forN;walk_at "evh"
 unfold forN;walk_at "evh"
 unfold forN;walk_at "evh"
def ydg{n:Nat}{a b c:Rat}(d:Sz n a)(f:Sz n b)(j:Sz n c)(P:n<=1000)(o:a≠0\/b≠0):zql [.tup [fr a,fr b,fr c]]=some (.val (hD (low3 a b c))):=by
 unfold zql;generalize q:tab [(0,Bs)]=Γ;have J:Γ 0=Bs:=by rw[<-q];rfl
 have E:=den_pos a;have F:=den_pos b;have G:=den_pos c;have r:=t3_bd d f j;have i:(t3 a b c).1≠0\/(t3 a b c).2.1≠0\/(t3 a b c).2.2≠0:=by
  rcases o with h|h
  ·left
   exact Ym (λe=>h (num_zero.mp e)) (Ym vB vB)
  ·right;left
   exact Ym (λe=>h (num_zero.mp e)) (Ym vB vB)
 have H:=ygo i;have w:(g3 (t3 a b c)).natAbs<2^(n+(n+n)):=by
  obtain⟨K,L,M⟩:=zsn (t3 a b c)
  rcases i with h|h|h
  ·exact Yw (zaj K h) r.a
  ·exact Yw (zaj L h) r.b
  ·exact Yw (zaj M h) r.c
 have A:Bn 1 (a.den:Int)=true:=Bj (n:=n) (m:=1) vA (Bh d) vA vB;have B:(1:Int)*(a.den:Int)=a.den:=Gm _;have C:Bn (a.den:Int) (b.den:Int)=true:=Bj (Bh d) (Bh f) vB vB;have D:Bn ((a.den:Int)*(b.den:Int)) (c.den:Int)=true:=Bj (zam (Bh d) (Bh f)) (Bh j) vB vB;have o1:zbm (a.den:Int)=true:=zbf vB (Bh d) vB;have o2:zbm (b.den:Int)=true:=zbf vB (Bh f) vB;have o3:zbm (c.den:Int)=true:=zbf vB (Bh j) vB;have o4:zbm (g3 (t3 a b c))=true:=zbf vB w vB;have Q:((a.den:Int)*(b.den:Int)*(c.den:Int)).fdiv (a.den:Int)=(b.den:Int)*(c.den:Int):=zqr vB (by rw[Ui]);have R:((a.den:Int)*(b.den:Int)*(c.den:Int)).fdiv (b.den:Int)=(a.den:Int)*(c.den:Int):=zqr vB (by rw[Kc (a.den:Int) (b.den:Int),Ui]);have S:((a.den:Int)*(b.den:Int)*(c.den:Int)).fdiv (c.den:Int)=(a.den:Int)*(b.den:Int):=zqr vB (by rw[Kc]);have T:Bn a.num ((b.den:Int)*(c.den:Int))=true:=Bj d.t (zam (Bh f) (Bh j)) vB vB;have U:Bn b.num ((a.den:Int)*(c.den:Int))=true:=Bj f.t (zam (Bh d) (Bh j)) vB vB;have V:Bn c.num ((a.den:Int)*(b.den:Int))=true:=Bj j.t (zam (Bh d) (Bh f)) vB vB;have I:∀x y u v,ev Γ (.comp (.bin .mul (.ix (.var 1) (.int 0)) (.bin .fdiv (.var 2) (.ix (.var 1) (.int 1)))) (.name 1) (.seqV 0) 2 [1] .non) [some (.tup [fr a,fr b,fr c]),some (.int ((a.den:Int)*(b.den:Int)*(c.den:Int))),x,y,u,v]=some (.new [.int (t3 a b c).1,.int (t3 a b c).2.1,.int (t3 a b c).2.2]):=by
  intro x y u v;have:=zep (Γ:=Γ) (ρ:=[some (.tup [fr a,fr b,fr c]),some (.int ((a.den:Int)*(b.den:Int)*(c.den:Int))),x,y,u,v]) (elt:=.bin .mul (.ix (.var 1) (.int 0)) (.bin .fdiv (.var 2) (.ix (.var 1) (.int 1)))) (t:=.name 1) (it:=.seqV 0) (nt:=2) (fr:=[1]) (c:=.non) (l:=[(a,(t3 a b c).1),(b,(t3 a b c).2.1),(c,(t3 a b c).2.2)]) (g:=λp=>fr p.1) (h:=λp=>.int p.2) (by rfl) (by show 3<=PySem.sizeLine;decide) rfl (λp s=>?_)
  ·exact this
  ·simp only[Zg,Zn,or_false] at s;clear r i H w A C D o4 d f j E F G o q B;rcases s with rfl|rfl|rfl<;>unfold t3<;>walk_at "evh"
 have N:∀x y z u,ev Γ (.fm .tupl #v[.comp (.bin .fdiv (.var 1) (.var 2)) (.name 1) (.seqV 3) 2 [4] .non]) [x,y,z,some (.lst [.int (t3 a b c).1,.int (t3 a b c).2.1,.int (t3 a b c).2.2]),some (.int (g3 (t3 a b c))),u]=some (.val (hD (low3 a b c))):=by
  intro x y z u;have:=zep (Γ:=Γ) (ρ:=[x,y,z,some (.lst [.int (t3 a b c).1,.int (t3 a b c).2.1,.int (t3 a b c).2.2]),some (.int (g3 (t3 a b c))),u]) (elt:=.bin .fdiv (.var 1) (.var 2)) (t:=.name 1) (it:=.seqV 3) (nt:=2) (fr:=[4]) (c:=.non) (l:=[(t3 a b c).1,(t3 a b c).2.1,(t3 a b c).2.2]) (g:=λp=>.int p) (h:=λp=>.int (p.fdiv (g3 (t3 a b c)))) (by rfl) (by show 3<=PySem.sizeLine;decide) rfl (λp s=>by
    clear s r i H w A C D d f j E F G o q I B;walk_at "evh")
  rw[ev_fm,zst,zyx];unfold evd;rw[this];rfl
 have O:gc (gc (gc 0 (t3 a b c).1) (t3 a b c).2.1) (t3 a b c).2.2=g3 (t3 a b c):=rfl;exact ydf J ixf1 ixf1 ixf1 lff lff lff A B C D I N O
end
open Sf
def pairsOf{d:Type}(l:List d):List (d×d):=l.zip (l.drop 1++l.take 1)
def zdi{d:Type}(l:List d):(pairsOf l).length=l.length:=by
 unfold pairsOf;rw[Jm,Z7,Yo,Wb];omega
def zoa{f:Type}{l:List f}{k:Nat}{p:f×f}(h:(pairsOf l)[k]? = some p):l[k]? = some p.1/\l[(k+1)%l.length]? = some p.2:=by
 have g:k<l.length:=by
  have:=(Zo.mp h).1
  rw[zdi] at this;exact this
 unfold pairsOf at h;rw[Q5] at h;refine⟨h.1,?_⟩
 have d:=h.2;rcases Yf (k+1) l.length with q|q
 ·rw[Yt (by rw[Yo];omega),Ud,V5] at d;rw[Zt q];exact d
 ·have e:k+1=l.length:=by omega
  rw[Yb (by rw[Yo];omega),Yo,show k-(l.length-1)=0 by omega,Jd vA] at d;rw[e,Jr];exact d
theorem zip_map(l:List (Rat×Rat)):zipD (l.map stD) ((l.map stD).drop 1++(l.map stD).take 1)=(pairsOf l).map λp=>D.tup [stD p.1,stD p.2]:=by
 unfold zipD pairsOf;rw[<-Vo,<-List.map_take,<-Yl,List.zip_map,Yd];rfl
def zdf(s e:Rat×Rat):H3:=low3 (s.2-e.2) (e.1-s.1) ((s.2-e.2)*s.1+(e.1-s.1)*s.2)
def zlv{s e:Rat×Rat}(h:s≠e):s.2-e.2≠0\/e.1-s.1≠0:=by
 refine Wv λd=>h ?_
 have f:s.2-e.2=0:=Wv λz=>d (.inl z)
 have g:e.1-s.1=0:=Wv λz=>d (.inr z)
 refine Wx ?_ ?_
 ·grind
 ·grind
section
variable{Γ:Nat->∅}
def zfd:∅:=run (tab []) zjs 1
def ok_steps:∀d w,d.length=1->zfd d=some w->run Γ zjs 1 d=some w:=λd w _ h=>zbx [] (λp e=>by cases e) vA d w h
def zwg{L:List D}(d:1<=L.length)(e:L.length<=1000):zfd [.lst L]=some (.new (zipD L (L.drop 1++L.take 1))):=by
 have f:=ztb (l:=L) (a:=1) d;have g:=cut_to (l:=L) (a:=1) d;rw[show((1:Nat):Int)=1 from rfl] at f g;have h:opW .add (.lst (L.drop 1)) (.lst (L.take 1))=some (.new (L.drop 1++L.take 1)):=by
  show(if _ then some (W.new _) else none)=_;rw[if_pos (by rw[Jb,Yo,Wb];omega)]
 have i:fmW .zip [.lst L,.lst (L.drop 1++L.take 1)]=some (.new (zipD L (L.drop 1++L.take 1))):=by
  show(if _ then some (W.new _) else none)=_;rw[if_pos (by rw[Z7,Yo,Wb];omega)]
 generalize zipD L (L.drop 1++L.take 1)=Z at *;generalize L.drop 1++L.take 1=Y at *;generalize L.drop 1=j at *;generalize L.take 1=m at *;clear d e;unfold zfd zjs;walk_at "evh"
abbrev zhj:List (Nat×(∅)):=[(9,zhb),(10,zaq),(11,zae),(43,zql)]
def zfe:∅:=run (tab zhj) zaz 5
def ok_side_between(j:Γ 9=zhb)(f:Γ 10=zaq)(g:Γ 11=zae)(i:Γ 43=zql):∀d w,d.length=2->zfe d=some w->run Γ zaz 5 d=some w:=λd w _ h=>zbx zhj (by
 intro p e;simp only[zhj,Zg,Zn,or_false] at e;rcases e with rfl|rfl|rfl|rfl<;>assumption) vA d w h
def zwm{s e:Rat×Rat}(d:Sz 165 s.1)(f:Sz 165 s.2)(i:Sz 165 e.1)(j:Sz 165 e.2)(h:s≠e):zfe [stD s,stD e]=some (.val (hD (zdf s e))):=by
 unfold zfe;generalize g:tab zhj=Γ;have u:Γ 9=zhb:=by rw[<-g];rfl
 have p:Γ 10=zaq:=by rw[<-g];rfl
 have q:Γ 11=zae:=by rw[<-g];rfl
 have r:Γ 43=zql:=by rw[<-g];rfl
 have l:=f.sub j;have m:=i.sub d;have v:zaq [fr s.2,fr e.2]=some (.val (fr (s.2-e.2))):=zal (Bw f j vA vA);have w:zaq [fr e.1,fr s.1]=some (.val (fr (e.1-s.1))):=zal (Bw i d vA vA);have z:zae [fr (s.2-e.2),fr s.1]=some (.val (fr ((s.2-e.2)*s.1))):=zal (Bw l d vA vA);have A:zae [fr (e.1-s.1),fr s.2]=some (.val (fr ((e.1-s.1)*s.2))):=zal (Bw m f vA vA);have B:zhb [fr ((s.2-e.2)*s.1),fr ((e.1-s.1)*s.2)]=some (.val (fr ((s.2-e.2)*s.1+(e.1-s.1)*s.2))):=zal (Bw (l.mul d) (m.mul f) vA vA);have n:=(l.mul d).add (m.mul f);have t:=ydg (l.mono (show 165+165+1<=1000 by decide)) (m.mono (show 165+165+1<=1000 by decide)) (n.mono (show(165+165+1+165)+(165+165+1+165)+1<=1000 by decide)) vA (zlv h);have o:hD (low3 (s.2-e.2) (e.1-s.1) ((s.2-e.2)*s.1+(e.1-s.1)*s.2))=hD (zdf s e):=rfl;rw[o] at t;generalize hD (zdf s e)=O at *;clear l m n d f i j h g o;unfold zaz stD;walk_at "evh"
def zix:∅:=run (tab [(41,zfd),(42,zfe)]) zcb 1
def ok_sides_of(f:Γ 41=zfd)(g:Γ 42=zfe):∀d w,d.length=1->zix d=some w->run Γ zcb 1 d=some w:=λd w _ h=>zbx [(41,zfd),(42,zfe)] (by
 intro p e;simp only[Zg,Zn,or_false] at e;rcases e with rfl|rfl<;>assumption) vA d w h
def zbj(l:List (Rat×Rat)):List H3:=(pairsOf l).map λp=>zdf p.1 p.2
def ykf{l:List (Rat×Rat)}(g:l.Nodup)(n:2<=l.length){p:(Rat×Rat)×(Rat×Rat)}(h:p∈pairsOf l):p.1≠p.2/\p.1∈l/\p.2∈l:=by
 obtain⟨k,i⟩:=Qz h
 obtain⟨d,f⟩:=zoa i
 refine⟨λe=>?_,Yg d,Yg f⟩
 rw[e] at d;obtain⟨l1,j⟩:=Zo.mp d
 obtain⟨l2,m⟩:=Zo.mp f
 have:=(Kt g).mp (j.trans m.symm)
 rcases Yf (k+1) l.length with q|q
 ·rw[Zt q] at this;omega
 ·rw[show k+1=l.length by omega,Jr] at this;omega
def zwl{l:List (Rat×Rat)}(f:l.Nodup)(h:2<=l.length)(i:l.length<=1000)(e:SzL 165 l):zix [.lst (l.map stD)]=some (.new ((zbj l).map hD)):=by
 unfold zix;generalize d:tab [(41,zfd),(42,zfe)]=Γ;have t:Γ 41=zfd:=by rw[<-d];rfl
 have u:Γ 42=zfe:=by rw[<-d];rfl
 have j:=zwg (L:=l.map stD) (by rw[Zd];omega) (by rw[Zd];exact i);rw[zip_map] at j;have pl:=zdi l;have m:ev Γ (.comp (.call 42 #v[.var 1,.var 2]) (.tup [1,2]) (.seq (.call 41 #v[.var 0])) 3 [] .non) [some (.lst (l.map stD))]=some (.new ((pairsOf l).map λp=>hD (zdf p.1 p.2))):=by
  refine zep (g:=λp=>D.tup [stD p.1,stD p.2]) ?_ (by rw[Jb];omega) rfl λp r=>?_
  ·generalize (pairsOf l).map (λp=>D.tup [stD p.1,stD p.2])=Z at *;clear f h i e d pl;walk_at "evh"
  ·obtain⟨s,n,o⟩:=ykf f h r
   have v:=zwm (e _ n).1 (e _ n).2 (e _ o).1 (e _ o).2 s;generalize hD (zdf p.1 p.2)=O at *;generalize stD p.1=x at *;generalize stD p.2=y at *;clear f h i e d pl s n o r j;walk_at "evh"
 unfold zbj;rw[Yd];show run Γ zcb 1 _=some (.new ((pairsOf l).map λp=>hD (zdf p.1 p.2)));generalize ((pairsOf l).map λp=>hD (zdf p.1 p.2))=O at *;unfold zcb;generalize q:E.comp _ _ _ _ _ _=w at *;clear f h i e d pl q j;walk_at "evh"
end
open Sf
section
variable{Γ:Nat->∅}
end
open Sf
section
variable{Γ:Nat->∅}
end
open Sf
def lv(a b:Int)(q:Rat×Rat):Rat:=(a:Rat)*q.1+(b:Rat)*q.2
def zax{n:Nat}{a:Int}(h:a.natAbs<2^n)(d:1<=n):Sz n (a:Rat):=⟨h,Zf (show 1<2^1 by decide) (Bo d)⟩
def mx(a b:Int):Rat->List (Rat×Rat)->Rat
 |x,[]=>x
 |x,q::r=>mx a b (if x<lv a b q then lv a b q else x) r
theorem mx_ok(a b:Int):∀(r:List (Rat×Rat)) (x:Rat),x<=mx a b x r/\(∀q∈r,lv a b q<=mx a b x r)/\(mx a b x r=x\/∃q∈r,mx a b x r=lv a b q)
 |[],x=>⟨Kk,λq h=>(nomatch h),.inl rfl⟩
 |q::r,x=>by
  obtain⟨f,g,i⟩:=mx_ok a b r (if x<lv a b q then lv a b q else x)
  have e:mx a b x (q::r)=mx a b (if x<lv a b q then lv a b q else x) r:=rfl;rw[e];by_cases c:x<lv a b q
  ·rw[if_pos c] at f g i |-;refine⟨K6 (Ye c) f,λz d=>?_,?_⟩
   ·rcases Zg.mp d with e|e
    ·rw[e];exact f
    ·exact g z e
   ·rcases i with e|⟨z,d,e⟩
    ·exact .inr ⟨q,.head _,e⟩
    ·exact .inr ⟨z,.tail _ d,e⟩
  ·rw[if_neg c] at f g i |-;refine⟨f,λz d=>?_,?_⟩
   ·rcases Zg.mp d with e|e
    ·rw[e];exact K6 (Rat.not_lt.mp c) f
    ·exact g z e
   ·rcases i with e|⟨z,d,e⟩
    ·exact .inl e
    ·exact .inr ⟨z,.tail _ d,e⟩
section
variable{Γ:Nat->∅}
abbrev zhl:List (Nat×(∅)):=[(9,zhb),(11,zae)]
def zed:∅:=run (tab zhl) zjt 3
def ok_level(g:Γ 9=zhb)(f:Γ 11=zae):∀d w,d.length=3->zed d=some w->run Γ zjt 3 d=some w:=λd w _ h=>zbx zhl (by
 intro p e;simp only[zhl,Zg,Zn,or_false] at e;rcases e with rfl|rfl<;>assumption) vA d w h
abbrev zhk:List (Nat×(∅)):=[(50,zed),(21,zgn)]
def zfg:∅:=run (tab zhk) zgh 6
abbrev zfo:Ss:=#v[.asg 5 (.call 50 #v[.var 1,.var 2,.var 4]),.iff (.call 21 #v[.var 3,.var 5]) #v[.asg 3 (.var 5)] .nil]
end
open Sf
def zqa(a b:Rat):a<b\/a=b\/b<a:=by
 by_cases h:a<b
 ·exact .inl h
 ·by_cases e:a=b
  ·exact .inr (.inl e)
  ·exact .inr (.inr (by grind))
def ykm(a:Rat×Rat):¬ltR a a:=λh=>by
 rcases h with h|⟨_,h⟩<;>exact Rat.lt_irrefl h
def ykl(a b:Rat×Rat):ltR a b\/a=b\/ltR b a:=by
 rcases zqa a.1 b.1 with h|h|h
 ·exact .inl (.inl h)
 ·rcases zqa a.2 b.2 with k|k|k
  ·exact .inl (.inr ⟨h,k⟩)
  ·exact .inr (.inl (Wx h k))
  ·exact .inr (.inr (.inr ⟨h.symm,k⟩))
 ·exact .inr (.inr (.inl h))
def rot{d:Type}(l:List d)(k:Nat):List d:=l.drop k++l.take k
def zfy{d:Type}{l:List d}{k:Nat}:(rot l k).length=l.length:=by
 unfold rot;rw[Z7,Yo,Wb];omega
def zlk{d:Type}{l:List d}{k i:Nat}(e:k<l.length)(f:i<l.length):(rot l k)[i]? = l[(i+k)%l.length]?:=by
 unfold rot;rcases Yf (i+k) l.length with h|h
 ·rw[Yt (by rw[Yo];omega),Ud,Zt h,V5]
 ·rw[Yb (by rw[Yo];omega),Yo,Jd vB,K7 h,Zt vB];congr 1
  omega
def rot_mem{d:Type}{l:List d}{k:Nat}{x:d}:x∈rot l k↔x∈l:=by
 unfold rot;rw[Yh,Or.comm,<-Yh,List.take_append_drop]
def zwq{d e:Type}(f:d->e)(l:List d)(k:Nat):(rot l k).map f=rot (l.map f) k:=by
 unfold rot;rw[Yl,Vo,List.map_take]
structure Fst(l:List (Rat×Rat))(k:Nat):Prop where
 lt:k<l.length
 low:∀j p q,j≠k->l[k]? = some p->l[j]? = some q->ltR p q
def IsShp.of_rot{l:List (Rat×Rat)}{k:Nat}(r:3<=l.length)(conv:∀k a b c,l[(k+l.length-1)%l.length]? = some a->l[k]? = some b->c∈l->c≠a->c≠b->0<oR a b c)(m:Fst l k):IsShp (rot l k):=by
 have d:=m.lt;refine⟨by rw[zfy];exact r,λj u q n f=>?_,λj a b c o g p s t=>?_⟩
 ·have h:j+1<l.length:=by
   have:=(Zo.mp f).1
   rw[zfy] at this;exact this
  rw[zlk d vB,Wo,Zt d] at n;rw[zlk d h] at f;refine m.low _ _ _ ?_ n f;rcases Yf (j+1+k) l.length with z|z
  ·rw[Zt z];omega
  ·rw[K7 z,Zt vB];omega
 ·have i:j<l.length:=by
   have:=(Zo.mp g).1
   rw[zfy] at this;exact this
  rw[zfy,zlk d (Qp _ vB)] at o;rw[zlk d i] at g;rw[rot_mem] at p;refine conv ((j+k)%l.length) a b c ?_ g p s t;rw[<-o];congr 1
  have e:((j+k)%l.length+l.length-1)%l.length=((j+k)%l.length+(l.length-1))%l.length:=by congr 1;omega
  rw[e,U8,Gk,<-U8,U8 ((j+l.length-1)%l.length),Gk,<-U8];congr 1
  omega
open Sf
def cutTo{l:List D}{a:Nat}(h:a<=l.length):cutD l none (some (a:Int))=l.take a:=by
 unfold cutD;rw[HT.sIx_none,HT.sIx_nat,List.drop_zero,Nat.sub_zero,Js h]
def zzh{l:List D}{a:Nat}(h:a<=l.length):cutD l (some (a:Int)) none=l.drop a:=by
 unfold cutD;rw[HT.sIx_none,HT.sIx_nat,Js h,Jj (by rw[Yo];exact Zk _)]
section
variable{Γ:Nat->∅}
def rat_of(x:Rat):Rat.divInt x.num (x.den:Int)=x:=by
 rw[Rat.divInt_ofNat];exact Vj x
def add_r(x y:Rat):Rat.divInt (x.num*(y.den:Int)+y.num*(x.den:Int)) ((x.den:Int)*(y.den:Int))=x+y:=by
 have d:(x.den:Int)≠0:=by have:=den_pos x;omega
 have f:(y.den:Int)≠0:=by have:=den_pos y;omega
 have e:=Kr x.num y.num d f;rw[rat_of,rat_of] at e;exact e.symm
def mul_r(x y:Rat):Rat.divInt (x.num*y.num) ((x.den:Int)*(y.den:Int))=x*y:=by
 have e:=Jp x.num y.num (d₁:=(x.den:Int)) (d₂:=(y.den:Int));rw[rat_of,rat_of] at e;exact e.symm
end
open Sf
def fr_eqd(x y:Rat):cmpD .eq (fr x) (fr y)=some (decide (x=y)):=by
 have d:∀z:Rat,dOkL 49 [D.int z.num,D.int (z.den:Int)]=true:=λ_=>rfl
 show(if (dOkL 49 [.int x.num,.int (x.den:Int)] && dOkL 49 [.int y.num,.int (y.den:Int)])=true then some (eqL [.int x.num,.int (x.den:Int)] [.int y.num,.int (y.den:Int)]) else none)=_;rw[d,d,Bool.and_self,if_pos rfl];congr 1
 simp only[eqL,eqD,Bool.and_true];by_cases h:x=y
 ·subst h;simp
 ·have:¬(x.num=y.num/\(x.den:Int)=(y.den:Int)):=λ⟨f,g⟩=>h (Rat.ext f vB)
  rw[decide_eq_false h];exact Gz.mpr λe=>this (by simpa using e)
section
variable{Γ:Nat->∅}
end
open Sf
section
variable{Γ:Nat->∅}
structure Sy(a b:Nat)(x:Rat):Prop where
 t:x.num.natAbs<2^a
 b:x.den<2^b
def Sy.sz{a b n:Nat}{x:Rat}(h:Sy a b x)(d:a<=n)(e:b<=n):Sz n x:=⟨Zf h.t (Bo d),Zf h.b (Bo e)⟩
def Sy.mono{a b c d:Nat}{x:Rat}(h:Sy a b x)(e:a<=c)(f:b<=d):Sy c d x:=⟨Zf h.t (Bo e),Zf h.b (Bo f)⟩
def zej{x:Rat}{p q:Int}{m n:Nat}(d:q≠0)(e:x=Rat.divInt p q)(f:p.natAbs<2^m)(g:q.natAbs<2^n):Sy m n x:=by
 obtain⟨a,b⟩:=(zcp x).cross_le d ((zru d).mp e)
 exact⟨Yw a f,by have:=b;omega⟩
def zwf{t b:Int}{m n:Nat}(h:b≠0)(d:t.natAbs<2^m)(e:b.natAbs<2^n):Sy m n (Rat.divInt t b):=zej h rfl d e
def Sy.mul{a b c d:Nat}{x y:Rat}(e:Sy a b x)(f:Sy c d y):Sy (a+c) (b+d) (x*y):=by
 have p:(x.den:Int)≠0:=by have:=x.den_nz;omega
 have q:(y.den:Int)≠0:=by have:=y.den_nz;omega
 refine zej (Ym p q) (zqi x y) ?_ ?_
 ·rw[Zu];exact B9 e.t f.t
 ·rw[Zu];exact B9 e.b f.b
def Sy.add{a b c d k:Nat}{x y:Rat}(f:Sy a b x)(g:Sy c d y)(h:a+d<=k)(i:c+b<=k):Sy (k+1) (b+d) (x+y):=by
 have p:(x.den:Int)≠0:=by have:=x.den_nz;omega
 have q:(y.den:Int)≠0:=by have:=y.den_nz;omega
 have e:x+y=Rat.divInt (x.num*y.den+y.num*x.den) (x.den*y.den):=by
  conv=>lhs;rw[<-Yq x,<-Yq y]
  exact Kr _ _ p q
 refine zej (Ym p q) e ?_ ?_
 ·have j:(x.num*y.den).natAbs<2^k:=by rw[Zu];exact Zf (B9 f.t g.b) (Bo h)
  have l:(y.num*x.den).natAbs<2^k:=by rw[Zu];exact Zf (B9 g.t f.b) (Bo i)
  exact Yw (Ba _ _) (by rw[V3,Nat.mul_two];exact Nat.add_lt_add j l)
 ·rw[Zu];exact B9 f.b g.b
def Sy.neg{a b:Nat}{x:Rat}(d:Sy a b x):Sy a b (-x):=⟨by show(-x.num).natAbs<_;rw[Kq];exact d.t,d.b⟩
end
namespace Mg
open DL
abbrev V:=Rat×Rat
def xr(u v:V):Rat:=u.1*v.2-u.2*v.1
def mn(a b:V):V:=(a.1-b.1,a.2-b.2)
def pl(a b:V):V:=(a.1+b.1,a.2+b.2)
def ng(u:V):V:=(-u.1,-u.2)
def up(u:V):Prop:=0<u.1\/(u.1=0/\0<u.2)
def zft(u v:V):xr u v = - xr v u:=by unfold xr;grind
def yfq(u v:V):xr (ng u) v = - xr u v:=by unfold xr ng;grind
def yfp(u v:V):xr u (ng v) = - xr u v:=by unfold xr ng;grind
def xr_nn(u v:V):xr (ng u) (ng v)=xr u v:=by unfold xr ng;grind
def xr_pl(u v w:V):xr u (pl v w)=xr u v+xr u w:=by unfold xr pl;grind
def zbe{a b:Rat}(d:0<b)(h:0<=a*b):0<=a:=by
 by_cases k:0<=a
 ·exact k
 ·have:=Z6 (show 0 < -a by grind) d
  grind
def up_1{u:V}(h:up u):0<=u.1:=by rcases h with h|h<;>grind
def yhs{u v w:V}(l:up u)(d:up v)(f:up w)(m:0<=xr u v)(n:0<=xr v w):0<=xr u w:=by
 have g:=up_1 l;have i:=up_1 f;rcases d with d|⟨v1,j⟩
 ·refine zbe d ?_;have e:xr u w*v.1=xr u v*w.1+xr v w*u.1:=by unfold xr;grind
  rw[e];have a:=Z4 m i;have b:=Z4 n g;grind
 ·have o:w.1=0:=by
   have a:=Z4 (Ye j) i;have e:xr v w = - (v.2*w.1):=by unfold xr;rw[v1];grind
   by_cases k:w.1=0
   ·exact k
   ·have:=Z6 j (show 0<w.1 by grind)
    grind
  have p:0<w.2:=by rcases f with h|h<;>grind
  have e:xr u w=u.1*w.2:=by unfold xr;rw[o];grind
  rw[e];exact Z4 g (Ye p)
def yfs{u v w:V}(d:up u)(e:up v)(f:up w)(h:0<xr u v)(g:0<=xr v w):0<xr u w:=by
 by_cases k:0<xr u w
 ·exact k
 ·have:=yhs e f d g (by rw[zft];grind)
  rw[zft] at this;grind
def bf(u v:V):Prop:=(up u/\up (ng v))\/(up u/\up v/\0<xr u v)\/(up (ng u)/\up (ng v)/\0<xr u v)
def zhq{u:V}(h:up u)(k:up (ng u)):False:=by
 unfold up ng at *;rcases h with h|h<;>rcases k with k|k<;>grind
def yfb{u v w:V}(h:bf u v)(k:bf v w):bf u w:=by
 rcases h with⟨a,b⟩|⟨a,b,c⟩|⟨a,b,c⟩<;>rcases k with⟨d,e⟩|⟨d,e,f⟩|⟨d,e,f⟩
 ·exact(zhq d b).elim
 ·exact(zhq d b).elim
 ·exact .inl ⟨a,e⟩
 ·exact .inl ⟨a,e⟩
 ·exact .inr (.inl ⟨a,e,yfs a b e c (Ye f)⟩)
 ·exact .inl ⟨a,e⟩
 ·exact(zhq d b).elim
 ·exact(zhq d b).elim
 ·refine .inr (.inr ⟨a,e,?_⟩);rw[<-xr_nn] at c f |-;exact yfs a b e c (Ye f)
structure Poly(P:Nat->V)(n:Nat):Prop where
 three:3<=n
 per:∀i,P (i+n)=P i
 conv:∀i k,0<=xr (mn (P (i+1)) (P i)) (mn (P k) (P i))
 turn:∀i,0<xr (mn (P (i+1)) (P i)) (mn (P (i+2)) (P (i+1)))
 fst:up (mn (P 1) (P 0))
 lst:up (ng (mn (P n) (P (n-1))))
 half:∀i,up (mn (P (i+1)) (P i))\/up (ng (mn (P (i+1)) (P i)))
 mono:∀i,i+1<n->up (ng (mn (P (i+1)) (P i)))->up (ng (mn (P (i+2)) (P (i+1))))
 low:∀k,0<k->k<n->up (mn (P k) (P 0))
def ed(P:Nat->V)(i:Nat):V:=mn (P (i+1)) (P i)
variable{P Q:Nat->V}{n m:Nat}
def Poly.next(h:Poly P n){i:Nat}(d:i+1<n):bf (ed P i) (ed P (i+1)):=by
 have t:=h.turn i;rcases h.half i with a|a
 ·rcases h.half (i+1) with b|b
  ·exact .inr (.inl ⟨a,b,t⟩)
  ·exact .inl ⟨a,b⟩
 ·exact .inr (.inr ⟨a,h.mono i d a,t⟩)
end Mg
namespace Mg
open DL
variable{P Q:Nat->V}{n m:Nat}
end Mg
namespace Mg
open DL
variable{P Q:Nat->V}{n m:Nat}
def zhy{a b:Rat}(d:0<b)(h:b*a=0):a=0:=by
 rcases zqa a 0 with k|k|k
 ·have:=Z6 d (show 0 < -a by grind);grind
 ·exact k
 ·have:=Z6 d k;grind
end Mg
namespace Mg
open DL
variable{P Q:Nat->V}{n m:Nat}
def ltR_up{a b:V}:ltR a b↔up (mn b a):=by
 unfold ltR up mn;dsimp only;constructor
 ·rintro(h|⟨h,k⟩)
  ·exact .inl (by grind)
  ·exact .inr ⟨by grind,by grind⟩
 ·rintro(h|⟨h,k⟩)
  ·exact .inl (by grind)
  ·exact .inr ⟨by grind,by grind⟩
def ykh(u:V):mn u u=(0,0):=by unfold mn;exact Wx (by dsimp only;grind) (by dsimp only;grind)
end Mg
namespace Mg
open DL
variable{P Q:Nat->V}{n m:Nat}
def rnd(l:List V)(i:Nat):V:=l.getD (i%l.length) (0,0)
def zbb{l:List V}(h:0<l.length)(i:Nat):l[i%l.length]? = some (rnd l i):=by
 unfold rnd;have:=Qp i h
 rw[Zx,Zh this];rfl
def zar{l:List V}(h:0<l.length)(i:Nat):rnd l i∈l:=Yg (zbb h i)
def zpz{l:List V}(d:l.Nodup)(h:0<l.length){i j:Nat}(e:rnd l i=rnd l j):i%l.length=j%l.length:=by
 have a:=zbb h i;have b:=zbb h j;have f:=Qp i h;rw[<-e,<-a] at b;exact((List.getElem?_inj f d).mp b.symm)
def yhm(u:V):xr u u=0:=by unfold xr;grind
def xr_0(u:V):xr u (0,0)=0:=by unfold xr;grind
def ykg{e f d:V}(i:up e)(j:up (ng f))(hD:0<xr f e)(a:0<=xr f d)(b:0<=xr e d)(h:up (ng d)):False:=by
 have l:xr f e*d.1=xr f d*e.1+xr e d*(ng f).1:=by unfold xr ng;grind
 have p:xr f e*d.2=xr f d*e.2+xr e d*(ng f).2:=by unfold xr ng;grind
 generalize ng f=g at *;generalize xr f e=D at *;generalize xr f d=x at *;generalize xr e d=y at *;have m:=up_1 i;have n:=up_1 j;have q:=Z4 a m;have r:=Z4 b n;have s:0<=d.1:=zbe hD (by grind);unfold up ng at h;dsimp only at h;rcases h with h|⟨h,o⟩
 ·grind
 ·have z:d.1=0:=by grind
  rw[z] at l;have t:x*e.1=0:=by grind
  have u:y*g.1=0:=by grind
  have v:0<=x*e.2:=by
   rcases i with k|⟨_,k⟩
   ·have:x=0:=zhy k (by grind)
    rw[this];grind
   ·exact Z4 a (Ye k)
  have w:0<=y*g.2:=by
   rcases j with k|⟨_,k⟩
   ·have:y=0:=zhy k (by grind)
    rw[this];grind
   ·exact Z4 b (Ye k)
  have:0<=d.2:=zbe hD (by grind)
  grind
def yjj{l:List V}(h:IsShp l)(r:l.Nodup):Poly (rnd l) l.length:=by
 have v:=h.three;have f:0<l.length:=by omega
 have m:∀i,rnd l (i+l.length)=rnd l i:=λi=>by unfold rnd;rw[Wp]
 have s:∀i k,rnd l k≠rnd l i->rnd l k≠rnd l (i+1)->0<oR (rnd l i) (rnd l (i+1)) (rnd l k):=λi k o p=>by
  refine h.conv ((i+1)%l.length) _ _ _ ?_ (zbb f (i+1)) (zar f k) o p;have:((i+1)%l.length+l.length-1)%l.length=i%l.length:=by
   have a:=Qp (i+1) f;have e:(i+1)%l.length+l.length-1=(i+1)%l.length+(l.length-1):=by omega
   rw[e,Qu,show i+1+(l.length-1)=i+l.length by omega,Wp]
  rw[this];exact zbb f i
 have t:∀a b c:V,oR a b c=xr (mn b a) (mn c a):=λa b c=>by unfold oR xr mn;rfl
 have conv:∀i k,0<=xr (mn (rnd l (i+1)) (rnd l i)) (mn (rnd l k) (rnd l i)):=λi k=>by
  by_cases o:rnd l k=rnd l i
  ·rw[o,ykh,xr_0];exact Kk
  ·by_cases p:rnd l k=rnd l (i+1)
   ·rw[p,yhm];exact Kk
   ·have:=s i k o p
    rw[t] at this;exact Ye this
 have n:∀i,rnd l (i+1)≠rnd l i:=λi e=>by
  have:=zpz r f e
  have a:=Qp i f;rw[<-Qu] at this;rcases Yf (i%l.length+1) l.length with k|k
  ·rw[Zt k] at this;omega
  ·rw[show i%l.length+1=l.length by omega,Jr] at this;omega
 have q:∀i,rnd l (i+2)≠rnd l i:=λi e=>by
  have:=zpz r f e
  have a:=Qp i f;rw[<-Qu] at this;rcases Yf (i%l.length+2) l.length with k|k
  ·rw[Zt k] at this;omega
  ·rw[show i%l.length+2=i%l.length+2-l.length+l.length by omega,Wp,Zt vB] at this;omega
 have g:∀i,0<xr (mn (rnd l (i+1)) (rnd l i)) (mn (rnd l (i+2)) (rnd l (i+1))):=λi=>by
  have:=s i (i+2) (q i) (n (i+1))
  rw[t] at this;have e:xr (mn (rnd l (i+1)) (rnd l i)) (mn (rnd l (i+2)) (rnd l (i+1)))=xr (mn (rnd l (i+1)) (rnd l i)) (mn (rnd l (i+2)) (rnd l i)):=by
   generalize rnd l (i+1)=b;generalize rnd l (i+2)=c;unfold xr mn;grind
  rw[e];exact this
 have low:∀k,0<k->k<l.length->up (mn (rnd l k) (rnd l 0)):=λk D w=>by
  have a:=zbb f 0;have b:=zbb f k;rw[Nat.zero_mod] at a;rw[Zt w] at b;rw[show k=k-1+1 by omega] at b;rw[<-ltR_up];have:=h.first (k-1) _ _ a b
  rw[show k-1+1=k by omega] at this;exact this
 have j:∀i,up (mn (rnd l (i+1)) (rnd l i))\/up (ng (mn (rnd l (i+1)) (rnd l i))):=λi=>by
  rcases ykl (rnd l i) (rnd l (i+1)) with k|k|k
  ·exact .inl (ltR_up.mp k)
  ·exact absurd k.symm (n i)
  ·refine .inr ?_;have:=ltR_up.mp k
   have e:ng (mn (rnd l (i+1)) (rnd l i))=mn (rnd l i) (rnd l (i+1)):=by
    unfold ng mn;exact Wx (by dsimp only;grind) (by dsimp only;grind)
   rw[e];exact this
 refine⟨v,m,conv,g,low 1 vB vB,?_,j,?_,low⟩
 ·have e:=m 0;rw[Wo] at e;rw[e];have:=low (l.length-1) vB vB
  have e:ng (mn (rnd l 0) (rnd l (l.length-1)))=mn (rnd l (l.length-1)) (rnd l 0):=by
   unfold ng mn;exact Wx (by dsimp only;grind) (by dsimp only;grind)
  rw[e];exact this
 ·intro i z a;rcases j (i+1) with u|u
  ·exfalso
   have A:=low (i+1) vB z;have B:=conv (i+1) 0;have C:=conv i 0;refine ykg (d:=mn (rnd l 0) (rnd l (i+1))) u a (g i) ?_ B ?_
   ·have e:xr (mn (rnd l (i+1)) (rnd l i)) (mn (rnd l 0) (rnd l (i+1)))=xr (mn (rnd l (i+1)) (rnd l i)) (mn (rnd l 0) (rnd l i)):=by
     generalize rnd l (i+1)=b;generalize rnd l 0=c;unfold xr mn;grind
    rw[e];exact C
   ·have e:ng (mn (rnd l 0) (rnd l (i+1)))=mn (rnd l (i+1)) (rnd l 0):=by
     unfold ng mn;exact Wx (by dsimp only;grind) (by dsimp only;grind)
    rw[e];exact A
  ·exact u
end Mg
namespace Mg
open DL
end Mg
namespace Mg
open DL
def oR_xr(a b c:V):oR a b c=xr (mn b a) (mn c b):=by unfold oR xr mn;grind
def yiy{l:List V}(h:IsShp l)(i:Nat){c:V}(f:c∈l)(n1:c≠rnd l i)(n2:c≠rnd l (i+1)):0<xr (mn (rnd l (i+1)) (rnd l i)) (mn c (rnd l (i+1))):=by
 have d:0<l.length:=by have:=h.three;omega
 have g:=zbb d i;have j:=zbb d (i+1);rw[<-oR_xr];refine h.conv ((i+1)%l.length) _ _ c ?_ j f n1 n2;rw[<-g];congr 1
 have e:((i+1)%l.length+l.length-1)%l.length=(i+1+l.length-1)%l.length:=by
  rw[G7 vB,Qu,<-G7 vB]
 rw[e,show i+1+l.length-1=i+l.length by omega,Wp]
def ygp{l:List V}(h:IsShp l){k:Nat}(f:k+1<l.length):rnd l (k+1)≠rnd l 0:=λe=>by
 have d:0<l.length:=by omega
 have a:=zbb d 0;have b:=zbb d (k+1);rw[Nat.zero_mod] at a;rw[Zt f] at b;have:=h.first k _ _ a b
 rw[e] at this;exact ykm _ this
def zwr{l:List V}(i:Nat):rnd l (i+l.length)=rnd l i:=by unfold rnd;rw[Wp]
def other{l:List V}(h:IsShp l)(a:V):∃c,c∈l/\c≠a:=by
 have d:=h.three;by_cases e:rnd l 0=a
 ·exact⟨rnd l 1,zar vB 1,λz=>ygp h (show 0+1<l.length by omega) (by rw[e];exact z)⟩
 ·exact⟨_,zar vB 0,e⟩
def nx_ne{l:List V}(h:IsShp l)(i:Nat):rnd l (i+1)≠rnd l i:=λe=>by
 obtain⟨c,f,d⟩:=other h (rnd l i)
 have:=yiy h i f d (by rw[e];exact d)
 rw[e] at this;unfold xr mn at this;grind
def nx_uq{l r:List V}(f:IsShp l)(g:IsShp r)(h:∀c∈l,c∈r)(d:∀c∈r,c∈l){i j:Nat}(e:rnd l i=rnd r j):rnd l (i+1)=rnd r (j+1):=by
 refine Wv λm=>?_;have n:0<l.length:=by have:=f.three;omega
 have o:0<r.length:=by have:=g.three;omega
 have a:=yiy f i (d _ (zar o (j+1))) (by rw[e];exact nx_ne g j) (Wn m);have b:=yiy g j (h _ (zar n (i+1))) (by rw[<-e];exact nx_ne f i) m;rw[e] at a;have z:xr (mn (rnd l (i+1)) (rnd r j)) (mn (rnd r (j+1)) (rnd l (i+1))) = - xr (mn (rnd r (j+1)) (rnd r j)) (mn (rnd l (i+1)) (rnd r (j+1))):=by unfold xr mn;grind
 grind
theorem ygi{l r:List V}(g:IsShp l)(h:IsShp r)(f:∀c∈l,c∈r)(d:∀c∈r,c∈l){i j:Nat}(e:rnd l i=rnd r j):∀t,rnd l (i+t)=rnd r (j+t)
 |0=>e
 |t+1=>nx_uq g h f d (ygi g h f d e t)
def nodup{l:List V}(h:IsShp l):l.Nodup:=by
 refine U9.mpr (Wg.mpr λi j d f n e=>?_);have g:0<l.length:=by omega
 have gi:=zbb g i;have m:=zbb g j;rw[Zt d,Zh d] at gi;rw[Zt f,Zh f] at m;have o:rnd l i=rnd l j:=by rw[<-Z0 gi,<-Z0 m,e]
 have:=ygi h h (λ_ z=>z) (λ_ z=>z) o (l.length-j)
 rw[show j+(l.length-j)=0+l.length by omega,zwr] at this;obtain⟨k,p⟩:∃k,i+(l.length-j)=k+1:=⟨i+(l.length-j)-1,by omega⟩
 rw[p] at this;exact ygp h vB this
end Mg
namespace Mg
open DL
end Mg
namespace Mg
open DL
end Mg
namespace Mg
open DL
end Mg
namespace Mg
open DL
end Mg
namespace Mg
open DL
variable{P Q:Nat->V}{n m:Nat}
theorem Poly.srt(h:Poly P n){i:Nat}:∀{k:Nat},i<k->k<n->bf (ed P i) (ed P k)
 |0,a,_=>by omega
 |k+1,a,b=>by
  rcases Yf i k with c|c
  ·exact yfb (h.srt c vB) (h.next b)
  ·have:i=k:=by omega
   subst this;exact h.next b
end Mg
namespace Mg
open DL
end Mg
namespace Mg
open DL
end Mg
open Sf
section
variable{Γ:Nat->∅}
def crI(s t:H3):Int:=s.1*t.2.1-s.2.1*t.1
def zcd:∅:=run (tab []) zju 2
def ok_cross:∀d w,d.length=2->zcd d=some w->run Γ zju 2 d=some w:=λd w _ h=>zbx [] (λp e=>by cases e) vA d w h
def zfm{s t:H3}(d:HB 3000 s)(e:HB 3000 t):zcd [hD s,hD t]=some (.val (.int (crI s t))):=by
 have f:Bn s.1 t.2.1=true:=Bj d.a e.b vA vA;have g:Bn s.2.1 t.1=true:=Bj d.b e.a vA vA;unfold zcd;generalize tab []=Γ;unfold crI hD zju;clear d e;walk_at "evh"
def zjv{l:List D}{k:Nat}{x:D}(h:l[k]? = some x):L2.atI l (k:Int)=some x:=by
 have d:k<l.length:=by
  rcases Yf k l.length with q|q
  ·exact q
  ·rw[Yp q] at h;cases h
 rw[yag (Yr k) vB,Z1,h]
end
open Sf Mg
section
variable{Γ:Nat->∅}
def yig{l:List (Rat×Rat)}{i:Nat}(d:i<l.length):(zbj l).drop i=zdf (rnd l i) (rnd l (i+1))::(zbj l).drop (i+1):=by
 have f:i<(zbj l).length:=by unfold zbj;rw[Zd,zdi];exact d
 rw[K8 f];congr 1
 have e:i<(pairsOf l).length:=by rw[zdi];exact d
 have g:=zoa (l:=l) (k:=i) (Zh e);have a:=zbb (l:=l) vB i;have b:=zbb (l:=l) vB (i+1);rw[Zt d] at a;rw[a] at g;rw[b] at g;have h:=Z0 g.1;have j:=Z0 g.2;show(List.map (λp=>zdf p.1 p.2) (pairsOf l))[i]'(by rw[Zd];exact e)=_;rw[Ur,<-h,<-j]
def znt{l:List (Rat×Rat)}(d:l.Nodup)(f:2<=l.length)(i:Nat):rnd l i≠rnd l (i+1):=λe=>by
 have:=zpz d vB e.symm
 have a:=Qp i (show 0<l.length by omega);rw[<-Qu] at this;rcases Yf (i%l.length+1) l.length with k|k
 ·rw[Zt k] at this;omega
 ·rw[show i%l.length+1=l.length by omega,Jr] at this;omega
end
open Sf Mg
structure Ov(d:Int)(B:Nat)(q:Rat×Rat):Prop where
 ex:∃x y:Int,q.1=Rat.divInt x d/\q.2=Rat.divInt y d/\x.natAbs<2^B/\y.natAbs<2^B
def SyL(a b:Nat)(l:List (Rat×Rat)):Prop:=∀q∈l,Sy a b q.1/\Sy a b q.2
theorem SyL.sz{a b n:Nat}{l:List (Rat×Rat)}(h:SyL a b l)(d:a<=n)(e:b<=n):SzL n l:=λq f=>⟨(h q f).1.sz d e,(h q f).2.sz d e⟩
open Sf Mg
section
variable{Γ:Nat->∅}
end
open Sf Mg
namespace Lb
open DL
abbrev Pt:=Int×Int
def oI(a b c:Pt):Int:=(b.1-a.1)*(c.2-a.2)-(b.2-a.2)*(c.1-a.1)
def ygh(a b c:Pt):oI a b c=oI b c a:=by unfold oI;grind
def Tri:List Pt->Prop
 |[]=>True
 |x::l=>(l.Pairwise λy z=>0<oI x y z)/\Tri l
theorem Tri.get:∀{l:List Pt},Tri l->∀{i j k:Nat}{a b c:Pt},i<j->j<k->l[i]? = some a->l[j]? = some b->l[k]? = some c->0<oI a b c
 |[],_,_,_,_,_,_,_,_,_,h,_,_=>by simp at h
 |x::l,h,i,j,k,a,b,c,g,n,d,e,f=>by
  obtain⟨j,rfl⟩:∃m,j=m+1:=⟨j-1,by omega⟩
  obtain⟨k,rfl⟩:∃m,k=m+1:=⟨k-1,by omega⟩
  rw[Wa] at e f;cases i with
  |zero=>
   rw[Qi] at d;cases d;obtain⟨o,p⟩:=Zo.mp e
   obtain⟨q,r⟩:=Zo.mp f
   rw[<-p,<-r];exact Wg.mp h.1 j k o q vB
  |succ i=>
   rw[Wa] at d;exact Tri.get h.2 vB vB d e f
def Tri.conv{l:List Pt}(h:Tri l){k:Nat}{a b c:Pt}(d:l[(k+l.length-1)%l.length]? = some a)(f:l[k]? = some b)(i:c∈l)(g:c≠a)(j:c≠b):0<oI a b c:=by
 obtain⟨m,n,e⟩:=J1 i
 have gc:l[m]? = some c:=by rw[<-e];exact Zh n
 have o:=(Zo.mp f).1;have p:m≠k:=λz=>by rw[z,f] at gc;exact j (Z0 gc).symm
 rcases Uh k with z|z
 ·subst z;rw[Zt vB] at d;have mn:m≠0+l.length-1:=λz=>by rw[z,d] at gc;exact g (Z0 gc).symm
  rw[ygh];exact h.get (show 0<m by omega) (show m<0+l.length-1 by omega) f gc d
 ·rw[show k+l.length-1=(k-1)+l.length by omega,Wp,Zt vB] at d;have mn:m≠k-1:=λz=>by rw[z,d] at gc;exact g (Z0 gc).symm
  rcases Yf m (k-1) with q|q
  ·rw[<-ygh];exact h.get q (show k-1<k by omega) gc d f
  ·exact h.get (show k-1<k by omega) (show k<m by omega) d f gc
def oI_1(a b:Pt):oI a a b=0:=by unfold oI;grind
def oI_2(a b:Pt):oI a b b=0:=by unfold oI;grind
def oI_3(a b:Pt):oI a b a=0:=by unfold oI;grind
def Tri.nodup{l:List Pt}(h:Tri l)(r:3<=l.length):l.Nodup:=by
 refine U9.mpr (Wg.mpr λi j f n d e=>?_);have g:∀m (o:m<l.length),l[m]? = some l[m]:=λm o=>Zh o
 rcases Yf (j+1) l.length with q|q
 ·have:=h.get d (show j<j+1 by omega) (g i f) (g j n) (g (j+1) q)
  rw[e,oI_1] at this;exact absurd this (Uj _)
 ·rcases Yf (i+1) j with p|p
  ·have:=h.get (show i<i+1 by omega) p (g i f) (g (i+1) vB) (g j n)
   rw[e,oI_3] at this;exact absurd this (Uj _)
  ·have:=h.get (show i-1<i by omega) d (g (i-1) vB) (g i f) (g j n)
   rw[e,oI_2] at this;exact absurd this (Uj _)
theorem Tri.app:∀{l m:List Pt},Tri l->Tri m->(l.Pairwise λx y=>∀z∈m,0<oI x y z)->(∀x∈l,m.Pairwise λy z=>0<oI x y z)->Tri (l++m)
 |[],m,_,h,_,_=>h
 |x::l,m,e,g,i,f=>by
  obtain⟨j,n⟩:=Y3.mp i
  exact⟨Jv.mpr ⟨e.1,f x (.head _),λy d z o=>j y d z o⟩,Tri.app e.2 g n λy d=>f y (.tail _ d)⟩
def low2(x:Int):Pt:=(x,x*x)
def high2(t x:Int):Pt:=(x,t-x*x)
def o_lll(a b c:Int):oI (low2 a) (low2 b) (low2 c)=(b-a)*((c-a)*(c-b)):=by unfold oI low2;grind
def o_hhh(t a b c:Int):oI (high2 t a) (high2 t b) (high2 t c)=(a-b)*((a-c)*(b-c)):=by unfold oI high2;grind
def o_llh(t a b h:Int):oI (low2 a) (low2 b) (high2 t h)=(b-a)*(t-(h*h+(a+b)*h-a*b)):=by unfold oI low2 high2;grind
def o_lhh(t a g h:Int):oI (low2 a) (high2 t h) (high2 t g)=(h-g)*(t-(a*a+(g+h)*a-g*h)):=by unfold oI low2 high2;grind
theorem zvx:∀{d:List Int},d.Pairwise (· < ·)->Tri (d.map low2)
 |[],_=>True.intro
 |x::d,h=>by
  obtain⟨e,f⟩:=Y3.mp h
  refine⟨Qb.mpr ?_,zvx f⟩
  refine Qs (λ{y z} g i q=>?_) f;have:=e y g
  have:=e z i
  rw[o_lll];exact Wk vB (Wk vB vB)
theorem zro{t:Int}:∀{d:List Int},d.Pairwise (· > ·)->Tri (d.map (high2 t))
 |[],_=>True.intro
 |x::d,h=>by
  obtain⟨e,f⟩:=Y3.mp h
  refine⟨Qb.mpr ?_,zro f⟩
  refine Qs (λ{y z} g i q=>?_) f;have:=e y g
  have:=e z i
  rw[o_hhh];exact Wk vB (Wk vB vB)
def cube{m h a b:Int}(d : -m<=h)(f:h<=m)(g : -m<=a)(i:a<=m)(j : -m<=b)(l:b<=m):h*h+(a+b)*h-a*b<=2*(m*m):=by
 have n:=Yx (show 0<=m+h by omega) (Yx (show 0<=m-a by omega) (show 0<=m-b by omega));have o:=Yx (show 0<=m-h by omega) (Yx (show 0<=m+a by omega) (show 0<=m+b by omega));have p:=Yx (show 0<=2*m by omega) (Yx (show 0<=m-h by omega) (show 0<=m+h by omega));have e:2*m*(2*(m*m)-(h*h+(a+b)*h-a*b))=(m+h)*((m-a)*(m-b))+(m-h)*((m+a)*(m+b))+2*m*((m-h)*(m+h)):=by grind
 by_cases z:m=0
 ·have:h=0:=by omega
  have:a=0:=by omega
  have:b=0:=by omega
  subst_vars
  decide
 ·refine Kn.mp λq=>?_;have:=Vk (show 0<2*m by omega) (show 2*(m*m)-(h*h+(a+b)*h-a*b)<0 by omega)
  omega
def tri_bows{t m:Int}{j l:List Int}(n:j.Pairwise (· < ·))(o:l.Pairwise (· > ·))(d:∀x∈j,-m<=x/\x<=m)(by_:∀y∈l,-m<=y/\y<=m)(w:2*(m*m)<t):Tri (j.map low2++l.map (high2 t)):=by
 refine Tri.app (zvx n) (zro o) (Qb.mpr (Qs (λ{a b} f r q z u=>?_) n)) λp v=>Qb.mpr ?_
 ·obtain⟨h,i,e⟩:=Z5.mp u
  rw[<-e,o_llh];have:=cube (by_ h i).1 (by_ h i).2 (d a f).1 (d a f).2 (d b r).1 (d b r).2
  exact Wk vB vB
 ·obtain⟨a,f,e⟩:=Z5.mp v
  refine Qs (λ{h g} i s q=>?_) o;rw[<-e,o_lhh];have:=cube (d a f).1 (d a f).2 (by_ g s).1 (by_ g s).2 (by_ h i).1 (by_ h i).2
  exact Wk vB vB
def crP(u v:Pt):Int:=u.1*v.2-u.2*v.1
def tri_box{u v:Pt}(h:0<crP u v):Tri [(0,0),u,(u.1+v.1,u.2+v.2),v]:=by
 unfold crP at h;simp only[Tri,oI,Y3,Zg,Zn,or_false,forall_eq_or_imp,forall_eq,List.Pairwise.nil,and_true,true_and,false_implies,implies_true];refine⟨⟨⟨?_,?_⟩,?_⟩,?_⟩<;>grind
def tri_3{u v:Pt}(h:0<crP u v):Tri [(0,0),u,v]:=by
 unfold crP at h;simp only[Tri,oI,Y3,Zg,Zn,or_false,forall_eq_or_imp,forall_eq,List.Pairwise.nil,and_true,true_and,false_implies,implies_true];grind
def tri_6{u v:Pt}(h:0<crP u v):Tri [(0,0),u,(u.1+(u.1+v.1),u.2+(u.2+v.2)),(2*(u.1+v.1),2*(u.2+v.2)),(v.1+(u.1+v.1),v.2+(u.2+v.2)),v]:=by
 unfold crP at h;simp only[Tri,oI,Y3,Zg,Zn,or_false,forall_eq_or_imp,forall_eq,List.Pairwise.nil,and_true,true_and,false_implies,implies_true];refine⟨⟨⟨?_,?_,?_,?_⟩,⟨?_,?_,?_⟩,⟨?_,?_⟩,?_⟩,⟨⟨?_,?_,?_⟩,⟨?_,?_⟩,?_⟩,⟨⟨?_,?_⟩,?_⟩,?_⟩<;>grind
def spot2(b f g s:Int)(p:Pt):Rat×Rat:=(Rat.divInt (p.1*b+f) s,Rat.divInt (p.2*b+g) s)
def zji(x y s:Int):Rat.divInt x s-Rat.divInt y s=((x-y:Int):Rat)*(s:Rat)⁻¹:=by
 rw[Up,Up,Kl,Kl,Qt];grind
def s_inv{s:Int}(d:1<=s):0<(s:Rat)⁻¹:=Jf.mpr (by have:((0:Int):Rat)<(s:Rat):=Z9.mpr vB;exact this)
def ycp{b f g s:Int}(j:1<=b)(i:1<=s){a c d:Pt}(h:0<oI a c d):0<oR (spot2 b f g s a) (spot2 b f g s c) (spot2 b f g s d):=by
 unfold oR spot2;dsimp only;rw[zji,zji,zji,zji];have k:=s_inv i;generalize (s:Rat)⁻¹=t at *;have e:(((c.1*b+f)-(a.1*b+f):Int):Rat)*t*((((d.2*b+g)-(a.2*b+g):Int):Rat)*t)-(((c.2*b+g)-(a.2*b+g):Int):Rat)*t*((((d.1*b+f)-(a.1*b+f):Int):Rat)*t)=t*t*(((b*b*oI a c d:Int)):Rat):=by
  unfold oI;simp only[Qt,Zy,U5];grind
 rw[e];have q:(0:Int)<b*b*oI a c d:=Wk (Wk vB vB) h;exact Z6 (Z6 k k) (Z9.mpr q)
def ltP(a b:Pt):Prop:=a.1<b.1\/(a.1=b.1/\a.2<b.2)
def ydc{b f g s:Int}(m:1<=b)(d:1<=s){p q:Pt}(h:ltP p q):ltR (spot2 b f g s p) (spot2 b f g s q):=by
 have k:=s_inv d;have up:∀x y c:Int,x<y->Rat.divInt (x*b+c) s<Rat.divInt (y*b+c) s:=λx y c z=>by
  have e:=zji (y*b+c) (x*b+c) s;have w:(0:Int)<(y*b+c)-(x*b+c):=by
   have:=Wk (show 0<y-x by omega) (show 0<b by omega)
   rw[Int.sub_mul] at this;omega
  have i:(0:Rat)<(((y*b+c)-(x*b+c):Int):Rat):=Z9.mpr w;have:=Z6 i k
  grind
 unfold ltR spot2;rcases h with h|⟨j,l⟩
 ·exact .inl (up _ _ _ h)
 ·exact .inr ⟨by rw[j],up _ _ _ l⟩
structure LoP(R:List Pt)(k:Nat):Prop where
 lt:k<R.length
 low:∀j p q,j≠k->R[k]? = some p->R[j]? = some q->ltP p q
def shp2{R:List Pt}{k:Nat}(h:Tri R)(t:3<=R.length)(i:LoP R k){b f g s:Int}(l:1<=b)(m:1<=s):IsShp ((rot R k).map (spot2 b f g s)):=by
 rw[zwq];refine IsShp.of_rot (by rw[Zd];exact t) (λk a H c n d u v w=>?_) ⟨by rw[Zd];exact i.lt,λj p q A o r=>?_⟩
 ·rw[Zi,Zd] at n;rw[Zi] at d;obtain⟨I,B,rfl⟩:=Zb.mp n
  obtain⟨J,C,rfl⟩:=Zb.mp d
  obtain⟨K,e,rfl⟩:=Z5.mp u
  exact ycp l m (h.conv B C e (λz=>v (by rw[z])) λz=>w (by rw[z]))
 ·rw[Zi] at o r;obtain⟨D,E,rfl⟩:=Zb.mp o
  obtain⟨F,G,rfl⟩:=Zb.mp r
  exact ydc l m (i.low j D F A E G)
def ykn(a b:Pt):ltP a b\/a=b\/ltP b a:=by
 unfold ltP;rcases Bb a.1 b.1 with h|h|h
 ·exact .inl (.inl h)
 ·rcases Bb a.2 b.2 with k|k|k
  ·exact .inl (.inr ⟨h,k⟩)
  ·exact .inr (.inl (Wx h k))
  ·exact .inr (.inr (.inr ⟨h.symm,k⟩))
 ·exact .inr (.inr (.inl h))
def ltP_trans{a b c:Pt}(d:ltP a b)(e:ltP b c):ltP a c:=by
 unfold ltP at *;omega
def ltP_irr(a:Pt):¬ltP a a:=by unfold ltP;omega
theorem lo_ex:∀{R:List Pt},R.Nodup->0<R.length->∃k,LoP R k
 |[],_,h=>absurd h vA
 |[p],_,_=>⟨0,Jq _,λj x y i _ d=>by
  cases j with
  |zero=>exact absurd rfl i
  |succ j=>simp at d⟩
 |p::q::R,o,_=>by
  obtain⟨n,r⟩:=Wq.mp o
  obtain⟨k,f⟩:=lo_ex r (Jq _)
  have l:(q::R)[k]? = some ((q::R)[k]'f.lt):=Zh f.lt;have m:(q::R)[k]'f.lt∈q::R:=Ka f.lt;rcases ykn p ((q::R)[k]'f.lt) with h|h|h
  ·refine⟨0,Jq _,λj x y i g d=>?_⟩
   cases j with
   |zero=>exact absurd rfl i
   |succ j=>
    rw[Qi] at g;rw[Wa] at d;cases g;by_cases e:j=k
    ·subst e;rw[l] at d;cases d;exact h
    ·exact ltP_trans h (f.low j _ _ e l d)
  ·rw[h] at n;exact absurd m n
  ·refine⟨k+1,Nat.succ_lt_succ f.lt,λj x y i g d=>?_⟩
   rw[Wa,l] at g;cases g;cases j with
   |zero=>rw[Qi] at d;cases d;exact h
   |succ j=>
    rw[Wa] at d;exact f.low j _ _ vB l d
end Lb
open Sf Mg
section
variable{Γ:Nat->∅}
abbrev q60:Int:=1000000000000000000000000000000000000000000000000000000000007
def zda:∅:=run (tab []) zbh 6
def ok_law_numbers:∀d w,d.length=2->zda d=some w->run Γ zbh 6 d=some w:=λd w _ h=>zbx [] (λp e=>by cases e) vA d w h
abbrev zdo:Ss:=#v[.asg 4 (.int 0),.iff (.cmp .gt (.bi .len #v[.var 0]) (.int 0)) #v[.asg 4 (.bin .mod (.ix (.var 0) (.bin .mod (.var 2) (.bi .min #v[.bi .len #v[.var 0],.int 63]))) (.bin .add (.bin .pow (.int 10) (.int 60)) (.int 7)))] .nil,.asg 5 (.bin .mod (.var 2) (.var 1)),.seti 3 (.var 5) (.bin .mod (.bin .add (.bin .add (.bin .mul (.ix (.var 3) (.var 5)) (.int 48271)) (.var 4)) (.bin .mul (.var 2) (.var 2))) (.bin .add (.bin .pow (.int 10) (.int 60)) (.int 7)))]
def zxn{e f:List D}{L m k c x:Int}{j:Nat}{l n:Option B}(q:(e.length:Int)=L)(o:(0<L)=True)(p:(63<L)=False)(d:L≠0)(g:m≠0)(h:0<m)
 (r:L2.atI e (k%L)=some (.int c))(s:L2.atI f (k%m)=some (.int x))(t:L2.ixN f.length (k%m)=some j)(o1:Bn x 48271=true)(o2:Bn k k=true):
  exs Γ zdo [~~~.lst e,~~~.int m,~~~.int k,some (.ow f),l,n]=some (.nx [~~~.lst e,~~~.int m,~~~.int k,some (.ow (f.set j (.int ((x*48271+c%q60+k*k)%q60)))),~~~.int (c%q60),~~~.int (k%m)]):=by
 have i:0<L:=of_eq_true o;have u:=zbz (a:=k) i;have v:=zbz (a:=k) h;have w:(L=0)=False:=eq_false d;have z:(m=0)=False:=eq_false g;have A:∀y:Int,y.fmod 1000000000000000000000000000000000000000000000000000000000007=y%1000000000000000000000000000000000000000000000000000000000007:=λy=>zbz vA
 have C:((1000000000000000000000000000000000000000000000000000000000007:Int)=0)=False:=eq_false vA;unfold zdo q60;clear d g h i;walk_at "evh"
def zxo{d:List D}{m k x:Int}{j:Nat}{g h:Option B}(e:m≠0)(f:0<m)(i:L2.atI d (k%m)=some (.int x))(l:L2.ixN d.length (k%m)=some j)(o1:Bn x 48271=true)(o2:Bn k k=true):
  exs Γ zdo [~~~.lst [],~~~.int m,~~~.int k,some (.ow d),g,h]=some (.nx [~~~.lst [],~~~.int m,~~~.int k,some (.ow (d.set j (.int ((x*48271+0+k*k)%q60)))),~~~.int 0,~~~.int (k%m)]):=by
 have n:=zbz (a:=k) f;have o:(m=0)=False:=eq_false e;have p:∀y:Int,y.fmod 1000000000000000000000000000000000000000000000000000000000007=y%1000000000000000000000000000000000000000000000000000000000007:=λy=>zbz vA
 have q:((1000000000000000000000000000000000000000000000000000000000007:Int)=0)=False:=eq_false vA;have r:((([]:List D).length:Nat):Int)=0:=rfl;unfold zdo q60;clear e f;walk_at "evh"
abbrev zmk:E:=(.comp (.int 0) (.name 1) (.range1 (.var 1)) 2 [] .non)
def yjz{d Z O:List D}{m N L:Int}{e f g:Option B}(i:(d.length:Int)=L)(h:(63<L)=False)(j:(if m<L then L else m)=N)(l:(-4611686018427387904<=N/\N<4611686018427387904)=True)
 (n:ev Γ zmk [some (.lst d),some (.int m),none,none,none,none]=some (.new Z))(o:lfL Z=true)
 (p:forN (Bv (.name 2)) (exs Γ zdo) (B8 0 N.toNat) [~~~.lst d,~~~.int m,none,some (.ow Z),none,none]=some (.nx [~~~.lst d,~~~.int m,e,some (.ow O),f,g])):
  run Γ zbh 6 [.lst d,.int m]=some (.new O):=by
 show run Γ #v[.asg 3 zmk,.frr (.name 2) (.range1 (.bi .max #v[.var 1,.bi .min #v[.bi .len #v[.var 0],.int 63]])) zdo,.retV 3] 6 _=_;generalize zmk=q at *;generalize zdo=r at *;walk_at "evh"
def zwu(m:Nat):(List.replicate m (0:Int)).map D.int=(List.range m).map λ_=>D.int 0:=by
 rw[List.map_replicate,List.map_const',Z8]
def yjf(m:Nat):B8 0 ((m:Int).toNat)=(List.range m).map λ(k:Nat)=>D.int (0+(k:Int)):=by
 rw[Z1];rfl
def yma{d:D}{m:Nat}(h:m<=1000):evW Γ (.range1 (.var 1)) [some d,some (.int (m:Int)),none,none,none,none]=some ((List.range m).map λ(k:Nat)=>D.int (0+(k:Int))):=by
 have e:evd Γ (.var 1) [some d,some (.int (m:Int)),none,none,none,none]=some (.int (m:Int)):=by walk_at "evh"
 rw[zkw,e,Ya,ygx,Ya,if_pos ⟨by omega,by omega⟩,yjf]
def yeh{e:D}{m:Nat}(h:m<=1000):ev Γ zmk [some e,some (.int (m:Int)),none,none,none,none]=some (.new ((List.replicate m (0:Int)).map D.int)):=by
 rw[zwu];have f:(1000:Nat)<=PySem.sizeLine:=by decide
 refine zep (l:=List.range m) (g:=λ(k:Nat)=>D.int (0+(k:Int))) (h:=λ_=>D.int 0) (yma h) (by rw[Z8];omega) rfl (λx _=>?_);clear h f;generalize D.int (0+(x:Int))=d;generalize D.int (m:Int)=i;walk_at "evh"
theorem zqm:∀l:List Int,lfL (l.map D.int)=true
 |[]=>rfl
 |_::l=>zqm l
def zfb{d:List Int}{j:Nat}(h:j<d.length):L2.atI (d.map D.int) (j:Int)=some (.int d[j]):=zjv (by rw[Zi,Zh h];rfl)
def ixN_of{n j:Nat}(h:j<n):L2.ixN n (j:Int)=some j:=by
 unfold L2.ixN;rw[if_pos vB];simp[h]
def zqh(g:List Int)(O:g.length<=63)(m:Nat)(P:1<=m)(G:m<=40):∃f:List Int,f.length=m/\(∀h∈f,0<=h/\h<q60)/\zda [.lst (g.map D.int),.int (m:Int)]=some (.new (f.map D.int)):=by
 have key:∀N:Nat,N<=100->∃i,forN (Bv (.name 2)) (exs (tab []) zdo) (B8 0 N) [~~~.lst (g.map D.int),~~~.int (m:Int),none,some (.ow ((List.replicate m (0:Int)).map D.int)),none,none]=some (.nx i) /\
   ∃(f:List Int) (j l n:Option B),(f.length=m/\∀h∈f,0<=h/\h<q60)/\i=[~~~.lst (g.map D.int),~~~.int (m:Int),j,some (.ow (f.map D.int)),l,n]:=λN v=>by
  refine zsq (I:=λw=>∃(f:List Int) (j l n:Option B),(f.length=m/\∀h∈f,0<=h/\h<q60)/\w=[~~~.lst (g.map D.int),~~~.int (m:Int),j,some (.ow (f.map D.int)),l,n]) _ (λd A w r=>?_) _ ⟨List.replicate m 0,none,none,none,⟨Yy,λh s=>by rw[(List.mem_replicate.mp s).2];decide⟩,rfl⟩;obtain⟨f,j,l,n,⟨p,q⟩,rfl⟩:=r
  unfold B8 at A;obtain⟨k,C,e⟩:=Z5.mp A
  have C:=W8.mp C;rw[V7] at e;subst e;have t:k%m<f.length:=by rw[p];exact Qp _ vB
  have H:(k:Int)%(m:Int)=((k%m:Nat):Int):=rfl;have E:L2.atI (f.map D.int) ((k:Int)%(m:Int))=some (.int f[k%m]):=zfb t;have F:L2.ixN (f.map D.int).length ((k:Int)%(m:Int))=some (k%m):=by rw[Zd,H];exact ixN_of t
  have u:=q _ (Ka t);have o1:Bn f[k%m] 48271=true:=Bx vB (by have:=u.2;unfold q60 at this;omega) vA vA;have o2:Bn (k:Int) (k:Int)=true:=Bx vB vB vB vB;have o:∀y:Int,(f.set (k%m) (y%q60)).length=m/\∀h∈f.set (k%m) (y%q60),0<=h/\h<q60:=λy=>by
   refine⟨by rw[Wr];exact p,λh s=>?_⟩
   rcases List.mem_or_eq_of_mem_set s with z|z
   ·exact q h z
   ·subst z;exact⟨Wu _ vA,Kg _ vA⟩
  by_cases z:g=[]
  ·subst z;refine⟨_,_,rfl,zxo vB vB E F o1 o2,f.set (k%m) ((f[k%m]*48271+0+(k:Int)*(k:Int))%q60),_,_,_,o _,by rw[List.map_set];rfl⟩
  ·have J:0<g.length:=Gb.mpr z;have K:k%g.length<g.length:=Qp _ J;refine⟨_,_,rfl,zxn (L:=(g.length:Int)) (c:=g[k%g.length]) (by rw[Zd]) (eq_true vB) (eq_false vB) vB vB vB (zfb K) E F o1 o2,f.set (k%m) ((f[k%m]*48271+g[k%g.length]%q60+(k:Int)*(k:Int))%q60),_,_,_,o _,by rw[List.map_set]⟩
 obtain⟨N,v,e⟩:∃N:Nat,N<=100/\(if (m:Int)<(g.length:Int) then(g.length:Int) else(m:Int))=(N:Int):=by
  by_cases z:(m:Int)<(g.length:Int)
  ·exact⟨g.length,by omega,if_pos z⟩
  ·exact⟨m,by omega,if_neg z⟩
 obtain⟨i,M,f,j,l,n,⟨p,q⟩,rfl⟩:=key N v
 refine⟨f,p,q,?_⟩
 unfold zda;exact yjz (L:=(g.length:Int)) (N:=(N:Int)) (by rw[Zd]) (eq_false vB) e (eq_true ⟨by omega,by omega⟩) (yeh vB) (zqm _) (by rw[Z1];exact M)
end
open Sf Mg
section
variable{Γ:Nat->∅}
def zhc:∅
 |[.int t,.int b]=>if 0<b/\b.natAbs<2^9000 then some (.val (fr (Rat.divInt t b))) else none
 |_=>none
def zlx{t b:Int}(h:0<b)(d:b.natAbs<2^9000):zhc [.int t,.int b]=some (.val (fr (Rat.divInt t b))):=if_pos ⟨h,d⟩
def ok_law_fraction(g:Γ 12=Bs):∀d w,d.length=2->zhc d=some w->run Γ zbq 3 d=some w:=by
 intro d w _ h;unfold zhc at h;split at h
 ·rename_i t b _;split at h
  ·rename_i z;cases h;have e:b≠0:=by omega
   obtain⟨j,i⟩:=zsx (t:=t) e z.2
   rw[ygq e];have f:¬b<0:=by omega
   unfold low1 Sf.low2 by_ zbq;rw[if_neg f];have l:=@zat;clear z e f i;walk_at "evh"
  ·cases h
 ·cases h
def Bt:∅:=fr2 okRR λx y=>fr (x+y)
def Bq:∅:=fr2 okRR λx y=>fr (x*y)
def zfh:∅:=fr2 okRR λx y=>.bl (decide (x<y))
def den2{x y:Rat}(d:Sz 4400 x)(e:Sz 4400 y):0<(x.den:Int)*(y.den:Int)/\((x.den:Int)*(y.den:Int)).natAbs<2^9000:=by
 refine⟨Wk (den_pos x) (den_pos y),?_⟩
 rw[Zu,Yk,Yk];exact Zf (B9 d.b e.b) (Bo vA)
def ok_law_plus(e:Γ 103=zhc):∀d w,d.length=2->Bt d=some w->run Γ zdy 2 d=some w:=by
 intro d w _ h;obtain⟨x,y,rfl,f,rfl⟩:=zcj h
 obtain⟨sx,sy⟩:=zdj f
 obtain⟨g,i⟩:=den2 sx sy
 have j:Bn x.num (y.den:Int)=true:=Bj sx.t (Bh sy) vA vA;have l:Bn y.num (x.den:Int)=true:=Bj sy.t (Bh sx) vA vA;have m:Bn (x.den:Int) (y.den:Int)=true:=Bj (Bh sx) (Bh sy) vA vA;have q:=zlx (t:=x.num*(y.den:Int)+y.num*(x.den:Int)) g i;rw[add_r] at q;clear sx sy g i f h;unfold zdy;show run Γ _ 2 [fr x,fr y]=some (.val (fr (x+y)));generalize fr (x+y)=z at *;unfold fr;walk_at "evh"
def zod(e:Γ 103=zhc):∀d w,d.length=2->Bq d=some w->run Γ zas 2 d=some w:=by
 intro d w _ h;obtain⟨x,y,rfl,f,rfl⟩:=zcj h
 obtain⟨sx,sy⟩:=zdj f
 obtain⟨g,i⟩:=den2 sx sy
 have j:Bn x.num y.num=true:=Bj sx.t sy.t vA vA;have l:Bn (x.den:Int) (y.den:Int)=true:=Bj (Bh sx) (Bh sy) vA vA;have q:=zlx (t:=x.num*y.num) g i;rw[mul_r] at q;clear sx sy g i f h;unfold zas;show run Γ _ 2 [fr x,fr y]=some (.val (fr (x*y)));generalize fr (x*y)=z at *;unfold fr;walk_at "evh"
def ok_law_less:∀d w,d.length=2->zfh d=some w->run Γ zdz 2 d=some w:=by
 intro d w _ h;obtain⟨x,y,e,f,g⟩:=zcj h
 subst e;subst g;obtain⟨sx,sy⟩:=zdj f
 have i:Bn x.num (y.den:Int)=true:=Bj sx.t (Bh sy) vA vA;have j:Bn y.num (x.den:Int)=true:=Bj sy.t (Bh sx) vA vA;rw[zsf];clear sx sy f h;unfold zdz;walk_at "evh"
end
section
variable{Γ:Nat->∅}
def pP(p:Lb.Pt):D:=.tup [.int p.1,.int p.2]
abbrev zeq:Ss:=#v[.app 1 (.bin .add (.bin .add (.ix (.var 1) (.neg (.int 1))) (.int 1)) (.bin .mod (.bin .fdiv (.ix (.var 0) (.int 2)) (.bin .add (.int 2) (.bin .mul (.int 3) (.var 2)))) (.int 3)))]
abbrev zdb:Ss:=#v[.app 3 (.bin .add (.bin .add (.ix (.var 3) (.neg (.int 1))) (.int 1)) (.bin .mod (.bin .fdiv (.ix (.var 0) (.int 4)) (.bin .add (.int 1) (.bin .mul (.int 3) (.var 2)))) (.int 3)))]
def ydd{f d:List D}{g k x:Int}{h i:Option B}(l:L2.atI f 2=some (.int g))(m:L2.atI d (-1)=some (.int x))(j:0<2+3*k)(n:zbm (2+3*k)=true)(o:Bn 3 k=true)(p:(d.length<PySem.sizeLine)=True):
  exs Γ zeq [~~~.lst f,some (.ow d),~~~.int k,h,i]=some (.nx [~~~.lst f,some (.ow (d++[.int (x+1+g/(2+3*k)%3)])),~~~.int k,h,i]):=by
 have e:=zmi (a:=g) j;unfold zeq;clear j;walk_at "evh"
def zyk{f d:List D}{g k x:Int}{h i:Option B}(l:L2.atI f 4=some (.int g))(m:L2.atI d (-1)=some (.int x))(j:0<1+3*k)(n:zbm (1+3*k)=true)(o:Bn 3 k=true)(p:(d.length<PySem.sizeLine)=True):
  exs Γ zdb [~~~.lst f,h,~~~.int k,some (.ow d),i]=some (.nx [~~~.lst f,h,~~~.int k,some (.ow (d++[.int (x+1+g/(1+3*k)%3)])),i]):=by
 have e:=zmi (a:=g) j;unfold zdb;clear j;walk_at "evh"
theorem zjh{bt:D->RhoS->Option RhoS}{fb:RhoS->Option Out}{I:Nat->RhoS->Prop}:∀(l:List D) (k:Nat) (e:RhoS),I k e->(∀j d e,l[j]? = some d->I (k+j) e->∃i f,bt d e=some i/\fb i=some (.nx f)/\I (k+j+1) f)->∃g,forN bt fb l e=some (.nx g)/\I (k+l.length) g
 |[],k,e,h,_=>⟨e,rfl,h⟩
 |d::l,k,e,h,st=>by
  obtain⟨i,f,m,n,o⟩:=st 0 d e rfl h
  obtain⟨g,p,q⟩:=zjh l (k+1) f o λj r e s t=>by
   obtain⟨u,v,a,b,c⟩:=st (j+1) r e (by rw[Wa];exact s) (by rw[show k+(j+1)=k+1+j by omega];exact t)
   exact⟨u,v,a,b,by rw[show k+1+j+1=k+(j+1)+1 by omega];exact c⟩
  refine⟨g,?_,by rw[Zq,show k+(l.length+1)=k+1+l.length by omega];exact q⟩
  unfold forN;rw[m];simp only
  rw[n];exact p
def zdv{bt:D->RhoS->Option RhoS}{fb:RhoS->Option Out}{I:Nat->RhoS->Prop}(n:Nat)(g:RhoS)(h:I 0 g)(s:∀(j:Nat) g,j<n->I j g->∃i l,bt (.int (j:Int)) g=some i/\fb i=some (.nx l)/\I (j+1) l):∃f,forN bt fb (B8 0 n) g=some (.nx f)/\I n f:=by
 have p:(B8 0 n).length=n:=by unfold B8;rw[Zd,Z8]
 obtain⟨f,e,q⟩:=zjh (bt:=bt) (fb:=fb) (I:=I) (B8 0 n) 0 g h λj d g m r=>by
  have o:=(Zo.mp m).1;rw[p] at o;unfold B8 at m;rw[Zi,Ky o] at m;cases m;rw[Wo] at r |-;dsimp only;rw[V7];exact s j g o r
 rw[Wo,p] at q;exact⟨f,e,q⟩
structure Gr(k:Nat)(xs:List Int):Prop where
 ex:∃ys x,xs=ys++[x]
 srt:xs.Pairwise (· < ·)
 len:xs.length=k+1
 bd:∀x∈xs,-3<=x/\x<=3*(k:Int)
def Gr.one{x:Int}(h : -3<=x/\x<=0):Gr 0 [x]:=⟨⟨[],x,rfl⟩,Y8 _ _,rfl,λy d=>by rw[Zs.mp d];omega⟩
def Gr.more{k:Nat}{f:List Int}{x e:Int}(h:Gr k (f++[x]))(i:0<=e)(j:e<=2):Gr (k+1) (f++[x]++[x+1+e]):=by
 have l:=h.bd x (Yj _ (.head _));refine⟨⟨_,_,rfl⟩,Jv.mpr ⟨h.srt,Y8 _ _,λy d z g=>?_⟩,by rw[Z7,h.len];rfl,λy d=>?_⟩
 ·rw[Zs.mp g];rcases Yh.mp d with q|q
  ·have:=(Jv.mp h.srt).2.2 y q x (.head _);omega
  ·rw[Zs.mp q];omega
 ·rcases Yh.mp d with q|q
  ·have:=h.bd y q;omega
  ·rw[Zs.mp q];omega
def zop{d:List Int}{x:Int}:L2.atI ((d++[x]).map D.int) (-1)=some (.int x):=by
 rw[Yl];exact L2.atI_last _ _
def yde{f:List D}{h:Int}(l:L2.atI f 2=some (.int h)){x:Int}(m : -3<=x/\x<=0)(n:Nat)(r:n<=10):∃d o,Gr n d/\forN (Bv (.name 2)) (exs Γ zeq) (B8 0 n) [~~~.lst f,some (.ow ([x].map D.int)),none,none,none]=some (.nx [~~~.lst f,some (.ow (d.map D.int)),o,none,none]):=by
 have s:(1000:Nat)<=PySem.sizeLine:=by decide
 obtain⟨p,e,d,c,g,rfl⟩:=zdv (bt:=Bv (.name 2)) (fb:=exs Γ zeq) (I:=λk i=>∃d c,Gr k d/\i=[~~~.lst f,some (.ow (d.map D.int)),c,none,none]) n _ ⟨[x],none,Gr.one m,rfl⟩ λj i t q=>by
  obtain⟨d,c,g,rfl⟩:=q
  obtain⟨u,y,rfl⟩:=g.ex
  have v:=g.len;refine⟨_,_,rfl,ydd (k:=(j:Int)) l zop vB (zeo vB vB) (Bx vA vA vB vB) (eq_true (by rw[Zd];omega)),_,~~~.int (j:Int),g.more (e:=h/(2+3*(j:Int))%3) vB vB,?_⟩
  simp only[Yl,Zz,Wy]
 exact⟨d,c,g,e⟩
def zyl{f:List D}{i:Int}{c1 c2:Option B}(m:L2.atI f 4=some (.int i)){x:Int}(o : -3<=x/\x<=0)(n:Nat)(r:n<=10):∃d h,Gr n d/\forN (Bv (.name 2)) (exs Γ zdb) (B8 0 n) [~~~.lst f,c1,c2,some (.ow ([x].map D.int)),none]=some (.nx [~~~.lst f,c1,h,some (.ow (d.map D.int)),none]):=by
 have s:(1000:Nat)<=PySem.sizeLine:=by decide
 obtain⟨p,e,d,c,g,rfl⟩:=zdv (bt:=Bv (.name 2)) (fb:=exs Γ zdb) (I:=λk l=>∃d c,Gr k d/\l=[~~~.lst f,c1,c,some (.ow (d.map D.int)),none]) n _ ⟨[x],c2,Gr.one o,rfl⟩ λj l t q=>by
  obtain⟨d,c,g,rfl⟩:=q
  obtain⟨u,y,rfl⟩:=g.ex
  have v:=g.len;refine⟨_,_,rfl,zyk (k:=(j:Int)) m zop vB (zeo vB vB) (Bx vA vA vB vB) (eq_true (by rw[Zd];omega)),_,~~~.int (j:Int),g.more (e:=i/(1+3*(j:Int))%3) vB vB,?_⟩
  simp only[Yl,Zz,Wy]
 exact⟨d,c,g,e⟩
abbrev ztc:E:=(.comp (.bin .mul (.var 1) (.var 1)) (.name 1) (.seq (.bin .add (.var 1) (.var 3))) 2 [] .non)
abbrev zml:E:=(.comp (.tup #v[.var 1,.bin .mul (.var 1) (.var 1)]) (.name 1) (.seqV 1) 2 [] .non)
abbrev zhv:E:=(.comp (.tup #v[.var 1,.bin .sub (.var 2) (.bin .mul (.var 1) (.var 1))]) (.name 1) (.rev (.var 3)) 2 [4] .non)
def yeq{e g h SQ A C:List D}{l m i j n1 n2 M:Int}{n:List Int}{o f:Option B}(p:L2.atI e 1=some (.int l))(q:L2.atI e 2=some (.int m))(r:L2.atI e 3=some (.int i))(s:L2.atI e 4=some (.int j))
 (t:1+m%2=n1)(u:i/4%3=n2)(v:(-4611686018427387904<=n1/\n1<4611686018427387904)=True)(w:(-4611686018427387904<=n2/\n2<4611686018427387904)=True)
 (z:forN (Bv (.name 2)) (exs Γ zeq) (B8 0 n1.toNat) [~~~.lst e,some (.ow [.int (l%3-3)]),none,none,none]=some (.nx [~~~.lst e,some (.ow g),o,none,none]))
 (E:forN (Bv (.name 2)) (exs Γ zdb) (B8 0 n2.toNat) [~~~.lst e,some (.ow g),o,some (.ow [.int (i%4-3)]),none]=some (.nx [~~~.lst e,some (.ow g),f,some (.ow h),none]))
 (F:ev Γ ztc [some (.lst e),some (.lst g),f.map B.d,some (.lst h),none]=some (.new SQ))(G:zme SQ=some n)(H:maxI n=some M)(I:Bn 2 M=true)
 (J:ev Γ zml [some (.lst e),some (.lst g),f.map B.d,some (.lst h),some (.int (2*M+1+j/32%9))]=some (.new A))(K:ev Γ zhv [some (.lst e),some (.lst g),f.map B.d,some (.lst h),some (.int (2*M+1+j/32%9))]=some (.new C))
 (L:opW .add (.lst A) (.lst C)=some (.new (A++C))):run Γ zap 5 [.lst e]=some (.new (A++C)):=by
 show run Γ #v[.asg 1 (.lst #v[.bin .sub (.bin .mod (.ix (.var 0) (.int 1)) (.int 3)) (.int 3)]),.frr (.name 2) (.range1 (.bin .add (.int 1) (.bin .mod (.ix (.var 0) (.int 2)) (.int 2)))) zeq,.asg 3 (.lst #v[.bin .sub (.bin .mod (.ix (.var 0) (.int 3)) (.int 4)) (.int 3)]),.frr (.name 2) (.range1 (.bin .mod (.bin .fdiv (.ix (.var 0) (.int 3)) (.int 4)) (.int 3))) zdb,.asg 4 (.bin .add (.bin .add (.bin .mul (.int 2) (.bi .max #v[ztc])) (.int 1)) (.bin .mod (.bin .fdiv (.ix (.var 0) (.int 4)) (.int 32)) (.int 9))),.ret (.bin .add zml zhv)] 5 _=_;generalize zeq=N at *;generalize zdb=O at *;generalize ztc=P at *;generalize zml=Q at *;generalize zhv=R at *;walk_at "evh"
end
open Sf Mg
section
variable{Γ:Nat->∅}
theorem zot:∀l:List Int,zme (l.map D.int)=some l
 |[]=>rfl
 |a::l=>by
  show(zme (l.map D.int)).map _=_;rw[zot l];rfl
theorem zxv:∀l:List Int,l≠[]->∃m,maxI l=some m
 |[],h=>absurd rfl h
 |[a],_=>⟨a,rfl⟩
 |a::b::l,_=>by
  obtain⟨m,e⟩:=zxv (b::l) (λz=>by cases z)
  exact⟨_,by unfold maxI;rw[e];rfl⟩
def sq_in{x y:Int}(h:x*x<=y*y): -(y.natAbs:Int)<=x/\x<=(y.natAbs:Int):=by
 have e:(y.natAbs:Int)*(y.natAbs:Int)=y*y:=Qd y;have n:(0:Int)<=(y.natAbs:Int):=Yr _;generalize (y.natAbs:Int)=m at *;constructor
 ·refine Kn.mp λz=>?_;have:=Wk (show 0 < -m-x by omega) (show 0<m-x by omega)
  have d:(-m-x)*(m-x)=x*x-m*m:=by grind
  omega
 ·refine Kn.mp λz=>?_;have:=Wk (show 0<x-m by omega) (show 0<x+m by omega)
  have d:(x-m)*(x+m)=x*x-m*m:=by grind
  omega
def zrh{A C:List D}(h:A.length+C.length<=1000):opW .add (.lst A) (.lst C)=some (.new (A++C)):=by
 have d:(1000:Nat)<=PySem.sizeLine:=by decide
 exact if_pos (Wd h d)
def zld{x:Int}(d : -31<=x)(e:x<=31):Bn x x=true:=Bx vB vB vB vB
def yml{d e:List Int}{o1 o2 o3:Option D}(f:∀x∈d++e,-31<=x/\x<=31)(i:d.length+e.length<=1000):ev Γ ztc [o1,some (.lst (d.map D.int)),o2,some (.lst (e.map D.int)),o3]=some (.new (((d++e).map λx=>x*x).map D.int)):=by
 have m:(1000:Nat)<=PySem.sizeLine:=by decide
 rw[Yd];refine zep (l:=d++e) (g:=D.int) (h:=D.int ∘ λx=>x*x) ?_ (by rw[Z7];omega) rfl (λx j=>?_)
 ·have n:=zrh (A:=d.map D.int) (C:=e.map D.int) (by rw[Zd,Zd];exact i);rw[Yl];clear f i m;walk_at "evh"
 ·have o:=zld (f x j).1 (f x j).2;clear f i m j;walk_at "evh"
  rfl
def yei{d:List Int}{o1 o2 o3 o4:Option D}(f:∀x∈d,-31<=x/\x<=31)(j:d.length<=1000):ev Γ zml [o1,some (.lst (d.map D.int)),o2,o3,o4]=some (.new ((d.map Lb.low2).map pP)):=by
 have m:(1000:Nat)<=PySem.sizeLine:=by decide
 rw[Yd];refine zep (l:=d) (g:=D.int) (h:=pP ∘ Lb.low2) ?_ vB rfl (λx i=>?_)
 ·clear f j m;walk_at "evh"
 ·have o:=zld (f x i).1 (f x i).2;have e:(pP ∘ Lb.low2) x=.tup [.int x,.int (x*x)]:=rfl;clear f j m i;walk_at "evh"
def zzk{d:List Int}{o1 o2 o3:Option D}{T:Int}(f:∀x∈d,-31<=x/\x<=31)(j:d.length<=1000):ev Γ zhv [o1,o2,o3,some (.lst (d.map D.int)),some (.int T)]=some (.new ((d.reverse.map (Lb.high2 T)).map pP)):=by
 have m:(1000:Nat)<=PySem.sizeLine:=by decide
 rw[Yd];refine zep (l:=d.reverse) (g:=D.int) (h:=pP ∘ Lb.high2 T) ?_ (by rw[Qh];omega) rfl (λx i=>?_)
 ·have e:(d.map D.int).reverse=d.reverse.map D.int:=by rw[List.map_reverse]
  have n:∀l,lstD (.lst l)=some l:=λ_=>rfl
  clear f j m;walk_at "evh"
 ·have o:=zld (f x (Jh.mp i)).1 (f x (Jh.mp i)).2;have e:(pP ∘ Lb.high2 T) x=.tup [.int x,.int (T-x*x)]:=rfl;clear f j m i;walk_at "evh"
structure RgOk(R:List Lb.Pt):Prop where
 tri:Lb.Tri R
 three:3<=R.length
 few:R.length<=30
 bd:∀p∈R,(-4000<=p.1/\p.1<=4000)/\(-4000<=p.2/\p.2<=4000)
def yja{n m:Nat}{h i:List Int}(j:Gr n h)(l:Gr m i)(n1:1<=n)(F:n<=10)(G:m<=10){M T:Int}(u:maxI ((h++i).map λx=>x*x)=some M)(v:2*M<T)(H:T<=2*M+20):RgOk (h.map Lb.low2++i.reverse.map (Lb.high2 T)):=by
 obtain⟨w,r⟩:=zhs u
 obtain⟨z,A,e⟩:=Z5.mp w
 have e:z*z=M:=e;have t : -3<=z/\z<=30:=by
  rcases Yh.mp A with q|q
  ·have:=j.bd z q;omega
  ·have:=l.bd z q;omega
 have f:∀x:Int,-3<=x->x<=30->x*x<=900:=λx a b=>by
  have:=Yx (show 0<=30-x by omega) (show 0<=30+x by omega)
  have o:(30-x)*(30+x)=900-x*x:=by grind
  omega
 have B:=f z t.1 t.2;rw[e] at B;have I:0<=M:=by
  have:=Qd z
  rw[<-e,<-this];exact Yx (Yr _) (Yr _)
 have g:∀x∈h++i,-(z.natAbs:Int)<=x/\x<=(z.natAbs:Int):=λx d=>sq_in (by rw[e];exact r _ (Z5.mpr ⟨x,d,rfl⟩))
 have J:=l.len;have K:=j.len;refine⟨Lb.tri_bows (m:=(z.natAbs:Int)) j.srt (List.pairwise_reverse.mpr l.srt) (λx d=>g x (Qy _ d)) (λy C=>g y (Yj _ (Jh.mp C))) ?_,?_,?_,λp D=>?_⟩
 ·rw[Qd,e];exact v
 ·rw[Z7,Zd,Zd,Qh];omega
 ·rw[Z7,Zd,Zd,Qh];omega
 ·rcases Yh.mp D with q|q
  ·obtain⟨x,d,o⟩:=Z5.mp q
   have b:=j.bd x d;have s:=f x vB vB;have L:=r _ (Z5.mpr ⟨x,Qy _ d,rfl⟩);have E:0<=x*x:=by rw[<-Qd x];exact Yx (Yr _) (Yr _)
   rw[<-o];exact⟨⟨by show -4000<=x;omega,by show x<=4000;omega⟩,by show -4000<=x*x;omega,by show x*x<=4000;omega⟩
  ·obtain⟨x,d,o⟩:=Z5.mp q
   have b:=l.bd x (Jh.mp d);have s:=f x vB vB;have E:0<=x*x:=by rw[<-Qd x];exact Yx (Yr _) (Yr _)
   rw[<-o];exact⟨⟨by show -4000<=x;omega,by show x<=4000;omega⟩,by show -4000<=T-x*x;omega,by show T-x*x<=4000;omega⟩
def zhd:∅:=run (tab []) zap 5
def zqg:∀d w,d.length=1->zhd d=some w->run Γ zap 5 d=some w:=λd w _ h=>zbx [] (λp e=>by cases e) vA d w h
def yer{f:List Int}(S:8<=f.length):∃R,RgOk R/\zhd [.lst (f.map D.int)]=some (.new (R.map pP)):=by
 have d:∀(j:Nat) (h:j<8),L2.atI (f.map D.int) (j:Int)=some (.int (f[j]'vB)):=λj h=>zfb vB
 obtain⟨E,F⟩:∃h,L2.atI (f.map D.int) 1=some (.int h):=⟨_,d 1 vA⟩
 obtain⟨t,u⟩:∃h,L2.atI (f.map D.int) 2=some (.int h):=⟨_,d 2 vA⟩
 obtain⟨i,H⟩:∃h,L2.atI (f.map D.int) 3=some (.int h):=⟨_,d 3 vA⟩
 obtain⟨I,v⟩:∃h,L2.atI (f.map D.int) 4=some (.int h):=⟨_,d 4 vA⟩
 obtain⟨w,J,K,U⟩:∃n:Nat,1+t%2=(n:Int)/\1<=n/\n<=2:=⟨(1+t%2).toNat,by omega,by omega,by omega⟩
 obtain⟨A,B,V⟩:∃n:Nat,i/4%3=(n:Int)/\n<=2:=⟨(i/4%3).toNat,by omega,by omega⟩
 obtain⟨l,L,m,N⟩:=yde (Γ:=tab []) u (x:=E%3-3) ⟨by omega,by omega⟩ w vB
 obtain⟨C,O,o,P⟩:=zyl (Γ:=tab []) (c1:=some (.ow (l.map D.int))) (c2:=L) v (x:=i%4-3) ⟨by omega,by omega⟩ A vB
 have W:=m.len;have X:=o.len;have r:∀x∈l,-31<=x/\x<=31:=λx g=>by have:=m.bd x g;omega
 have by_:∀x∈C,-31<=x/\x<=31:=λx g=>by have:=o.bd x g;omega
 obtain⟨M,s⟩:=zxv ((l++C).map λx=>x*x) (λz=>by
  have:=congrArg List.length z
  rw[Zd,Z7,Kx] at this;omega)
 have G:=yja m o K vB vB s (T:=2*M+1+I/32%9) vB vB;have Y:0<=M/\M<=1000:=by
  obtain⟨p,_⟩:=zhs s
  obtain⟨z,Q,e⟩:=Z5.mp p
  have e:z*z=M:=e;have Z : -31<=z/\z<=31:=by
   rcases Yh.mp Q with q|q
   ·exact r z q
   ·exact by_ z q
  have:=Yx (show 0<=31-z by omega) (show 0<=31+z by omega)
  have B:(31-z)*(31+z)=961-z*z:=by grind
  have p0:0<=z*z:=by rw[<-Qd z];exact Yx (Yr _) (Yr _)
  omega
 refine⟨_,G,?_⟩
 unfold zhd;rw[Yl];exact yeq (n1:=(w:Int)) (n2:=(A:Int)) F u H v J B (eq_true ⟨by omega,by omega⟩) (eq_true ⟨by omega,by omega⟩) (by rw[Z1];exact N) (by rw[Z1];exact P)
  (yml (λx g=>(Yh.mp g).elim (r x) (by_ x)) vB) (zot _) s (Bx vA vA vB vB) (yei r vB) (zzk by_ vB) (zrh (by rw[Zd,Zd,Zd,Zd,Qh];omega))
end
open Sf Mg
section
variable{Γ:Nat->∅}
abbrev zbd:Ss:=#v[.asg 3 (.tup #v[.bin .add (.ix (.var 1) (.int 0)) (.ix (.var 2) (.int 0)),.bin .add (.ix (.var 1) (.int 1)) (.ix (.var 2) (.int 1))]),.asg 4 (.bin .mod (.ix (.var 0) (.int 0)) (.int 5)),.iff (.cmp .eq (.var 4) (.int 2)) #v[.ret (.lst #v[.tup #v[.int 0,.int 0],.var 1,.var 3,.var 2])] .nil,.iff (.cmp .eq (.var 4) (.int 3)) #v[.ret (.lst #v[.tup #v[.int 0,.int 0],.var 1,.var 2])] .nil,.iff (.cmp .eq (.var 4) (.int 4)) #v[.asg 5 (.tup #v[.bin .add (.ix (.var 1) (.int 0)) (.ix (.var 3) (.int 0)),.bin .add (.ix (.var 1) (.int 1)) (.ix (.var 3) (.int 1))]),.asg 6 (.tup #v[.bin .add (.ix (.var 2) (.int 0)) (.ix (.var 3) (.int 0)),.bin .add (.ix (.var 2) (.int 1)) (.ix (.var 3) (.int 1))]),.ret (.lst #v[.tup #v[.int 0,.int 0],.var 1,.var 5,.tup #v[.bin .mul (.int 2) (.ix (.var 3) (.int 0)),.bin .mul (.int 2) (.ix (.var 3) (.int 1))],.var 6,.var 2])] .nil,.ret (.call 105 #v[.var 0])]
def zws{h:List D}{i j l m e f g d:Int}(o:L2.atI h 1=some (.int i))(p:L2.atI h 2=some (.int j))(q:L2.atI h 3=some (.int l))(r:L2.atI h 4=some (.int m))(s:1+i%5=e)(t:j%7-3=f)(u:0-l%4=g)(v:1+m%5=d)
 (w:Bn e d=true)(z:Bn f g=true):run Γ zao 7 [.lst h]=outO (exs Γ zbd [~~~.lst h,~~~.tup [.int e,.int f],~~~(.tup [.int g,.int (if e*d<=f*g then d+10 else d)]),none,none,none,none]):=by
 show run Γ (.cons (.asg 1 (.tup #v[.bin .add (.int 1) (.bin .mod (.ix (.var 0) (.int 1)) (.int 5)),.bin .sub (.bin .mod (.ix (.var 0) (.int 2)) (.int 7)) (.int 3)])) (.cons (.asg 2 (.tup #v[.bin .sub (.int 0) (.bin .mod (.ix (.var 0) (.int 3)) (.int 4)),.bin .add (.int 1) (.bin .mod (.ix (.var 0) (.int 4)) (.int 5))])) (.cons (.iff (.cmp .le (.bin .mul (.ix (.var 1) (.int 0)) (.ix (.var 2) (.int 1))) (.bin .mul (.ix (.var 1) (.int 1)) (.ix (.var 2) (.int 0)))) #v[.asg 2 (.tup #v[.ix (.var 2) (.int 0),.bin .add (.ix (.var 2) (.int 1)) (.int 10)])] .nil) zbd))) 7 _=_;generalize zbd=A at *;by_cases c:e*d<=f*g
 ·rw[if_pos c];have n:decide (e*d<=f*g)=true:=decide_eq_true c;clear c;walk_at "evh"
 ·rw[if_neg c];have n:decide (e*d<=f*g)=false:=decide_eq_false c;clear c;walk_at "evh"
section
variable{HS:List D}{h0 u0 u1 v0 v1:Int}(a0:L2.atI HS 0=some (.int h0))
include a0
def ring_2(e:h0%5=2):outO (exs Γ zbd [~~~.lst HS,~~~.tup [.int u0,.int u1],~~~.tup [.int v0,.int v1],none,none,none,none])=some (.new [.tup [.int 0,.int 0],.tup [.int u0,.int u1],.tup [.int (u0+v0),.int (u1+v1)],.tup [.int v0,.int v1]]):=by
 unfold zbd;walk_at "evh"
def ring_3(e:h0%5=3):outO (exs Γ zbd [~~~.lst HS,~~~.tup [.int u0,.int u1],~~~.tup [.int v0,.int v1],none,none,none,none])=some (.new [.tup [.int 0,.int 0],.tup [.int u0,.int u1],.tup [.int v0,.int v1]]):=by
 unfold zbd;walk_at "evh"
def ring_4(e:h0%5=4)(d:Bn 2 (u0+v0)=true)(f:Bn 2 (u1+v1)=true):outO (exs Γ zbd [~~~.lst HS,~~~.tup [.int u0,.int u1],~~~.tup [.int v0,.int v1],none,none,none,none])=some (.new [.tup [.int 0,.int 0],.tup [.int u0,.int u1],.tup [.int (u0+(u0+v0)),.int (u1+(u1+v1))],.tup [.int (2*(u0+v0)),.int (2*(u1+v1))],.tup [.int (v0+(u0+v0)),.int (v1+(u1+v1))],.tup [.int v0,.int v1]]):=by
 unfold zbd;walk_at "evh"
def yiz{z:Int}{φ:∅}(d:Γ 105=φ){w:W}(e:h0%5=z)(d2:decide (z=2)=false)(f:decide (z=3)=false)(g:decide (z=4)=false)(q:φ [.lst HS]=some w):outO (exs Γ zbd [~~~.lst HS,~~~.tup [.int u0,.int u1],~~~.tup [.int v0,.int v1],none,none,none,none])=some w:=by
 unfold zbd;walk_at "evh"
end
def zff:∅:=run (tab [(105,zhd)]) zao 7
def zoe(d:Γ 105=zhd):∀e w,e.length=1->zff e=some w->run Γ zao 7 e=some w:=λe w _ h=>zbx [(105,zhd)] (λp f=>by rw[Zs.mp f];exact d) vA e w h
def yce{m:List Int}(s:8<=m.length):∃R,RgOk R/\zff [.lst (m.map D.int)]=some (.new (R.map pP)):=by
 have l:∀(j:Nat) (h:j<8),L2.atI (m.map D.int) (j:Int)=some (.int (m[j]'vB)):=λj h=>zfb vB
 obtain⟨q,r⟩:∃h,L2.atI (m.map D.int) 0=some (.int h):=⟨_,l 0 vA⟩
 obtain⟨t,v⟩:∃h,L2.atI (m.map D.int) 1=some (.int h):=⟨_,l 1 vA⟩
 obtain⟨A,B⟩:∃h,L2.atI (m.map D.int) 2=some (.int h):=⟨_,l 2 vA⟩
 obtain⟨C,E⟩:∃h,L2.atI (m.map D.int) 3=some (.int h):=⟨_,l 3 vA⟩
 obtain⟨F,G⟩:∃h,L2.atI (m.map D.int) 4=some (.int h):=⟨_,l 4 vA⟩
 obtain⟨i,H,P⟩:∃u,1+t%5=u/\1<=u/\u<=5:=⟨_,rfl,by omega,by omega⟩
 obtain⟨g,I,Q⟩:∃u,A%7-3=u /\ -3<=u/\u<=3:=⟨_,rfl,by omega,by omega⟩
 obtain⟨d,J,S⟩:∃u,0-C%4=u /\ -3<=u/\u<=0:=⟨_,rfl,by omega,by omega⟩
 obtain⟨v1,K,T⟩:∃u,1+F%5=u/\1<=u/\u<=5:=⟨_,rfl,by omega,by omega⟩
 have L:=zws (Γ:=tab [(105,zhd)]) v B E G H I J K (Bx vB vB vB vB) (Bx vB vB vB vB);unfold zff;rw[L];have small : -9<=g*d/\g*d<=9:=by
  have U:=Yx (show 0<=3-g by omega) (show 0 <= -d by omega);have V:=Yx (show 0<=3+g by omega) (show 0 <= -d by omega);have X:(3-g) * -d=g*d-3*d:=by grind
  have Y:(3+g) * -d = -(g*d)-3*d:=by grind
  omega
 obtain⟨n,M,Z,cr⟩:∃w,(if i*v1<=g*d then v1+10 else v1)=w/\(1<=w/\w<=15)/\0<Lb.crP (i,g) (d,w):=by
  by_cases c:i*v1<=g*d
  ·refine⟨_,if_pos c,⟨by omega,by omega⟩,?_⟩
   show 0<i*(v1+10)-g*d;have p:=Yx (show 0<=i-1 by omega) (show 0<=v1+10 by omega);have f:(i-1)*(v1+10)=i*(v1+10)-(v1+10):=by grind
   omega
  ·refine⟨_,if_neg c,⟨by omega,by omega⟩,?_⟩
   show 0<i*v1-g*d;omega
 rw[M];have N:∀{R:List Lb.Pt}{w:W},w=.new (R.map pP)->some w=some (W.new (R.map pP)):=λe=>by rw[e]
 rcases(show q%5=2\/q%5=3\/q%5=4\/(q%5=0\/q%5=1) by omega) with c|c|c|c
 ·rw[ring_2 r c];refine⟨[(0,0),(i,g),(i+d,g+n),(d,n)],⟨Lb.tri_box cr,vC,vC,λp o=>?_⟩,rfl⟩
  simp only[Zg,Zn,or_false] at o;rcases o with rfl|rfl|rfl|rfl<;>dsimp only<;>omega
 ·rw[ring_3 r c];refine⟨[(0,0),(i,g),(d,n)],⟨Lb.tri_3 cr,vC,vC,λp o=>?_⟩,rfl⟩
  simp only[Zg,Zn,or_false] at o;rcases o with rfl|rfl|rfl<;>dsimp only<;>omega
 ·rw[ring_4 r c (Bx vA vA vB vB) (Bx vA vA vB vB)];refine⟨[(0,0),(i,g),(i+(i+d),g+(g+n)),(2*(i+d),2*(g+n)),(d+(i+d),n+(g+n)),(d,n)],⟨Lb.tri_6 cr,vC,vC,λp o=>?_⟩,rfl⟩
  simp only[Zg,Zn,or_false] at o;rcases o with rfl|rfl|rfl|rfl|rfl|rfl<;>dsimp only<;>omega
 ·obtain⟨R,O,e⟩:=yer s
  refine⟨R,O,yiz r (Γ:=tab [(105,zhd)]) (z:=q%5) (φ:=zhd) rfl rfl (decide_eq_false vB) (decide_eq_false vB) (decide_eq_false vB) e⟩
abbrev zgf:Ss:=#v[.asg 9 (.call 103 #v[.bin .add (.bin .mul (.var 7) (.var 2)) (.bin .mod (.ix (.var 0) (.int 6)) (.var 3)),.var 4]),.app 6 (.tup #v[.var 9,.call 103 #v[.bin .add (.bin .mul (.var 8) (.var 2)) (.bin .mod (.ix (.var 0) (.int 7)) (.var 3)),.var 4]])]
def ybs{φ:∅}(h:Γ 103=φ){d L:List D}{x y b o s e f:Int}{i j l:Option B}{X Y:D}(m:L2.atI d 6=some (.int e))(n:L2.atI d 7=some (.int f))(g:0<o)(p:Bn x b=true)(q:Bn y b=true)
 (r:φ [.int (x*b+e%o),.int s]=some (.val X))(t:φ [.int (y*b+f%o),.int s]=some (.val Y))(l1:lf X=true)(l2:lf Y=true)(u:(L.length<PySem.sizeLine)=True):
  exs Γ zgf [~~~.lst d,i,~~~.int b,~~~.int o,~~~.int s,j,some (.ow L),~~~.int x,~~~.int y,l]=some (.nx [~~~.lst d,i,~~~.int b,~~~.int o,~~~.int s,j,some (.ow (L++[.tup [X,Y]])),~~~.int x,~~~.int y,~~~X]):=by
 have v:=zbz (a:=e) g;have w:=zbz (a:=f) g;have z:(o=0)=False:=eq_false vB;unfold zgf;clear g;walk_at "evh"
def yih{φ ψ:∅}(j:Γ 46=ψ)(i:Γ 103=φ){e d A C O:List D}{g h b o s k:Int}{m:D}{c1 l n p:Option B}(q:L2.atI e 0=some (.int g))(r:L2.atI e 5=some (.int h))
 (t:ψ [.lst e]=some (.new d))(u:lfL d=true)(v:L2.atI [D.int 1,D.int (1+h%1000000000)] (g/5%2)=some (.int b))(w:L2.atI [D.int 10,D.int 1000000000000000000] (g/10%2)=some (.int o))(z:L2.atI [D.int 1,D.int (1+h%6)] (g/20%2)=some (.int s))
 (mn:minN d=some m)(E:idxW (.lst d) m=some (.val (.int k)))(F:cutD d (some k) none=A)(G:cutD d none (some k)=C)(H:opW .add (.lst A) (.lst C)=some (.new (A++C)))(I:lfL (A++C)=true)
 (f:forN (Bv (.tup [7,8])) (exs Γ zgf) (A++C) [~~~.lst e,some (.ow d),~~~.int b,~~~.int o,~~~.int s,~~~.int k,some (.ow []),none,none,none]=some (.nx [~~~.lst e,some (.ow d),~~~.int b,~~~.int o,~~~.int s,~~~.int k,some (.ow O),l,n,p])):
  run Γ zaf 10 [.lst e]=some (.new O):=by
 show run Γ #v[.asg 1 (.call 46 #v[.var 0]),.asg 2 (.ix (.lst #v[.int 1,.bin .add (.int 1) (.bin .mod (.ix (.var 0) (.int 5)) (.bin .pow (.int 10) (.int 9)))]) (.bin .mod (.bin .fdiv (.ix (.var 0) (.int 0)) (.int 5)) (.int 2))),.asg 3 (.ix (.lst #v[.int 10,.bin .pow (.int 10) (.int 18)]) (.bin .mod (.bin .fdiv (.ix (.var 0) (.int 0)) (.int 10)) (.int 2))),.asg 4 (.ix (.lst #v[.int 1,.bin .add (.int 1) (.bin .mod (.ix (.var 0) (.int 5)) (.int 6))]) (.bin .mod (.bin .fdiv (.ix (.var 0) (.int 0)) (.int 20)) (.int 2))),.asg 5 (.idx (.var 1) (.bi .min #v[.var 1])),.asg 6 (.lst .nil),.frr (.tup [7,8]) (.seq (.bin .add (.sl (.var 1) (.som (.var 5)) .non) (.sl (.var 1) .non (.som (.var 5))))) zgf,.retV 6] 10 _=_;generalize zgf=J at *;walk_at "evh"
end
open Sf Mg
theorem argB{d:Nat->Nat->Bool}{k n:Nat}(f:∀j,j<=n->j≠k->d k j=true)(g:∀j,j<=n->j≠k->d j k=false):∀m,m<=n->(m<k->PySem.argBest d m<=m)/\(k<=m->PySem.argBest d m=k)
 |0,_=>⟨λ_=>Zk _,λh=>by show 0=k;omega⟩
 |m+1,i=>by
  obtain⟨a,b⟩:=argB f g m vB
  unfold PySem.argBest;by_cases e:k<=m
  ·rw[b e,g (m+1) i vB];exact⟨λh=>by omega,λ_=>rfl⟩
  ·by_cases l:k=m+1
   ·have:=a vB
    rw[<-l,f _ vB vB];exact⟨λh=>by omega,λ_=>rfl⟩
   ·have:=a vB
    refine⟨λ_=>?_,λh=>by omega⟩
    split
    ·exact Zk _
    ·omega
def ltN_P{p q:Lb.Pt}:ltN (pP p) (pP q)=true↔Lb.ltP p q:=by
 have e:ltN (pP p) (pP q)=lt2 p.1 p.2 q.1 q.2:=rfl;rw[e];unfold lt2 fstD Lb.ltP;by_cases h:p.1=q.1
 ·by_cases d:p.2=q.2
  ·simp[h,d]
  ·simp[h,d]
 ·simp[h]
def zgd{R:List Lb.Pt}{i:Nat}(d:i<R.length):R[i]? = some (R.getD i (0,0)):=by
 rw[Zx,Zh d];rfl
def ykv{R:List Lb.Pt}{k:Nat}(F:Lb.LoP R k):minN (R.map pP)=some (pP (R.getD k (0,0))):=by
 have all:((R.map pP).all λd=>(nst d).isSome)=true:=Us.mpr λd h=>by
  obtain⟨q,_,e⟩:=Z5.mp h
  rw[<-e];rfl
 unfold minN;rw[if_pos all];have g:∀i,i<R.length->(R.map pP).getD i .non=pP (R.getD i (0,0)):=λi l=>by
  rw[Zx,Zi,zgd l];rfl
 have lk:=F.lt;have e:zul (R.map pP)=k:=by
  unfold zul;rw[Zd];refine(argB (n:=R.length-1) (λj m f=>?_) (λj m f=>?_) (R.length-1) (Zk _)).2 vB
  ·show ltN _ _=true;rw[g k lk,g j vB];exact ltN_P.mpr (F.low j _ _ f (zgd lk) (zgd vB))
  ·show ltN _ _=false;rw[g k lk,g j vB];refine Gz.mpr λz=>?_;exact Lb.ltP_irr _ (Lb.ltP_trans (ltN_P.mp z) (F.low j _ _ f (zgd lk) (zgd vB)))
 rw[e,Zi,zgd lk];rfl
def pP_inj{a b:Lb.Pt}(h:eqD (pP a) (pP b)=true):a=b:=by
 unfold pP at h;simp only[eqD,eqL,Zj,beq_iff_eq,and_true] at h;exact Wx h.1 h.2
theorem dOk_P:∀R:List Lb.Pt,dOkL 49 (R.map pP)=true
 |[]=>rfl
 |p::R=>by
  show(dOk 49 (pP p) && dOkL 49 (R.map pP))=true;rw[dOk_P R];rfl
theorem yku:∀R:List Lb.Pt,lfL (R.map pP)=true
 |[]=>rfl
 |p::R=>by
  show(lf (pP p) && lfL (R.map pP))=true;rw[yku R];rfl
def idx_P{R:List Lb.Pt}{k:Nat}(f:R.Nodup)(d:k<R.length):idxW (.lst (R.map pP)) (pP (R.getD k (0,0)))=some (.val (.int (k:Int))):=by
 have e:R.getD k (0,0)=R[k]:=by rw[Zx,Zh d];rfl
 have h:idxD (R.map pP) (pP (R.getD k (0,0)))=some k:=by
  unfold idxD;rw[dOk_P,if_pos (show(true && dOk 50 (pP (R.getD k (0,0))))=true from rfl)];refine Ue.mpr ⟨by rw[Zd];exact d,?_,λj g=>?_⟩
  ·rw[Ur,e];exact zsv 50 _ rfl
  ·rw[Ur,e];intro z;have:=pP_inj z
   have:=(Kt (h₀:=by omega) (h₁:=d) f).mp this
   omega
 show(idxD _ _).map _=_;rw[h];rfl
abbrev zfv:List (Nat×(∅)):=[(46,zff),(103,zhc)]
def zcz:∅:=run (tab zfv) zaf 10
section
variable{Γ:Nat->∅}
def zlr(g:Γ 46=zff)(e:Γ 103=zhc):∀d w,d.length=1->zcz d=some w->run Γ zaf 10 d=some w:=λd w _ h=>zbx zfv (by
 intro p f;simp only[zfv,Zg,Zn,or_false] at f;rcases f with rfl|rfl<;>assumption) vA d w h
end
structure Sh5(l:List (Rat×Rat)):Prop where
 shp:IsShp l
 few:l.length<=30
 ov:∃s:Int,s≠0/\s.natAbs<2^3/\∀q∈l,Ov s 62 q
 sy:SyL 62 3 l
def zvt{a b:D}{i:Int}(h:i=0\/i=1):L2.atI [a,b] i=some (if i=0 then a else b):=by
 rcases h with h|h<;>subst h<;>rfl
def zyc(x:Rat):lf (fr x)=true:=rfl
def zkr{hs:List Int}(T:8<=hs.length):∃l,Sh5 l/\zcz [.lst (hs.map D.int)]=some (.new (l.map stD)):=by
 have i:∀(j:Nat) (h:j<8),L2.atI (hs.map D.int) (j:Int)=some (.int (hs[j]'vB)):=λj h=>zfb vB
 obtain⟨t,U⟩:∃h,L2.atI (hs.map D.int) 0=some (.int h):=⟨_,i 0 vA⟩
 obtain⟨K,V⟩:∃h,L2.atI (hs.map D.int) 5=some (.int h):=⟨_,i 5 vA⟩
 obtain⟨n,W⟩:∃h,L2.atI (hs.map D.int) 6=some (.int h):=⟨_,i 6 vA⟩
 obtain⟨u,X⟩:∃h,L2.atI (hs.map D.int) 7=some (.int h):=⟨_,i 7 vA⟩
 obtain⟨R,r,Y⟩:=yce T
 have L:=r.tri.nodup r.three;have Z:=r.three;have rf:=r.few;obtain⟨k,A⟩:=Lb.lo_ex L vB
 obtain⟨b,i1,b1,b2⟩:∃b:Int,L2.atI [D.int 1,D.int (1+K%1000000000)] (t/5%2)=some (.int b)/\1<=b/\b<=1000000000:=by
  rw[zvt vB];by_cases z:t/5%2=0
  ·exact⟨1,by rw[if_pos z],by decide,by decide⟩
  ·exact⟨_,by rw[if_neg z],by omega,by omega⟩
 obtain⟨o,i2,o1,o2⟩:∃b:Int,L2.atI [D.int 10,D.int 1000000000000000000] (t/10%2)=some (.int b)/\1<=b/\b<=1000000000000000000:=by
  rw[zvt vB];by_cases z:t/10%2=0
  ·exact⟨10,by rw[if_pos z],by decide,by decide⟩
  ·exact⟨_,by rw[if_neg z],by decide,by decide⟩
 obtain⟨s,i3,s1,s2⟩:∃b:Int,L2.atI [D.int 1,D.int (1+K%6)] (t/20%2)=some (.int b)/\1<=b/\b<=6:=by
  rw[zvt vB];by_cases z:t/20%2=0
  ·exact⟨1,by rw[if_pos z],by decide,by decide⟩
  ·exact⟨_,by rw[if_neg z],by omega,by omega⟩
 have f6:0<=n%o/\n%o<o:=⟨Wu _ vB,Kg _ vB⟩;have f7:0<=u%o/\u%o<o:=⟨Wu _ vB,Kg _ vB⟩;have g:s.natAbs<2^9000:=Zf (show s.natAbs<2^3 by omega) (Bo vA);have sz:(1000:Nat)<=PySem.sizeLine:=by decide
 refine⟨(rot R k).map (Lb.spot2 b (n%o) (u%o) s),?_,?_⟩
 ·have key:∀q∈(rot R k).map (Lb.spot2 b (n%o) (u%o) s),∃x y:Int,q.1=Rat.divInt x s/\q.2=Rat.divInt y s/\x.natAbs<2^62/\y.natAbs<2^62:=λq v=>by
   obtain⟨p,B,e⟩:=Z5.mp v
   have m:=r.bd p (rot_mem.mp B);have M:∀x:Int,-4000<=x->x<=4000 -> -4000000000000<=x*b/\x*b<=4000000000000:=λx C E=>by
    have g1:=Qj E (show 0<=b by omega);have g2:=Qj C (show 0<=b by omega);omega
   have k1:=M p.1 m.1.1 m.1.2;have k2:=M p.2 m.2.1 m.2.2;have w:(2:Nat)^62=4611686018427387904:=by decide
   rw[<-e];exact⟨p.1*b+n%o,p.2*b+u%o,rfl,rfl,by rw[w];omega,by rw[w];omega⟩
  have F:s.natAbs<2^3:=by omega
  refine⟨Lb.shp2 r.tri Z A b1 s1,by rw[Zd,zfy];exact rf,⟨s,by omega,F,λq v=>⟨key q v⟩⟩,λq v=>?_⟩
  obtain⟨x,y,e1,e2,C,E⟩:=key q v
  exact⟨by rw[e1];exact zwf vB C F,by rw[e2];exact zwf vB E F⟩
 ·have N:k<=(R.map pP).length:=by rw[Zd];have:=A.lt;omega
  have O:(R.map pP).drop k++(R.map pP).take k=(rot R k).map pP:=by rw[zwq];rfl
  obtain⟨a1,f,G,H,J,rfl⟩:=zjh (bt:=Bv (.tup [7,8])) (fb:=exs (tab zfv) zgf) (I:=λj P=>∃G H J,P=[~~~.lst (hs.map D.int),some (.ow (R.map pP)),~~~.int b,~~~.int o,~~~.int s,~~~.int (k:Int),some (.ow (((rot R k).take j).map λp=>stD (Lb.spot2 b (n%o) (u%o) s p))),G,H,J]) ((rot R k).map pP) 0 [~~~.lst (hs.map D.int),some (.ow (R.map pP)),~~~.int b,~~~.int o,~~~.int s,~~~.int (k:Int),some (.ow []),none,none,none] ⟨none,none,none,rfl⟩ λj d P Q hi=>by
   obtain⟨G,H,J,rfl⟩:=hi
   rw[Zi] at Q;obtain⟨p,B,e⟩:=Zb.mp Q
   subst e;have m:=r.bd p (rot_mem.mp (Yg B));have S:∀x:Int,-4000<=x->x<=4000->Bn x b=true:=λx C E=>Bx vB vB vB vB
   refine⟨_,_,rfl,ybs (Γ:=tab zfv) (φ:=zhc) (x:=p.1) (y:=p.2) rfl W X vB (S p.1 m.1.1 m.1.2) (S p.2 m.2.1 m.2.2) (zlx vB g) (zlx vB g) (zyc _) (zyc _) (eq_true ?_),~~~.int p.1,~~~.int p.2,~~~fr (Rat.divInt (p.1*b+n%o) s),?_⟩
   ·rw[Zd,Wb];have:(rot R k).length=R.length:=zfy
    omega
   ·rw[Wo,Q4,B,Yl];rfl
  rw[Wo,Zd,Q9] at f;unfold zcz;rw[Yd];refine yih (Γ:=tab zfv) (φ:=zhc) (ψ:=zff) (c1:=none) rfl rfl U V Y (yku R) i1 i2 i3 (ykv A) (idx_P L A.lt) (zzh N) (cutTo N) (zrh (by rw[Yo,Wb,Zd];omega)) (by rw[O];exact yku _) (by rw[O];exact f)
namespace Fi
open Mg
def nup{u:V}(h:up u)(k:up (ng u)):False:=by
 rcases h with h|⟨h,d⟩<;>rcases k with k|⟨k,e⟩<;>simp only[ng] at * <;> grind
def o1{j i k:V}(f:bf j i)(g:bf i k)(h:xr j i<=0):xr j k<=0:=by
 rcases f with⟨a,b⟩|⟨_,_,c⟩|⟨_,_,c⟩
 ·rcases g with⟨c,d⟩|⟨c,d,e⟩|⟨c,d,e⟩
  ·exact(nup c b).elim
  ·exact(nup c b).elim
  ·have x:=yhs a b d (by rw[yfp];grind) (by rw[xr_nn];exact Ye e);rw[yfp] at x;grind
 ·grind
 ·grind
def o2{j i k:V}(f:bf i k)(g:bf k j)(h:xr j i<=0):xr j k<=0:=by
 rcases g with⟨a,b⟩|⟨_,_,c⟩|⟨_,_,c⟩
 ·rcases f with⟨c,d⟩|⟨c,d,e⟩|⟨c,d,e⟩
  ·exact(nup a d).elim
  ·have x:=yhs b c d (by rw[yfq];grind) (Ye e);rw[yfq] at x;grind
  ·exact(nup a d).elim
 ·have:=zft j k;grind
 ·have:=zft j k;grind
def o3{j i k:V}(f:bf j i)(g:bf k j)(h:xr j i<=0):xr j k<=0:=by
 rcases f with⟨a,b⟩|⟨_,_,c⟩|⟨_,_,c⟩
 ·rcases g with⟨c,d⟩|⟨c,d,e⟩|⟨c,d,e⟩
  ·exact(nup a d).elim
  ·have:=zft j k;grind
  ·exact(nup a d).elim
 ·grind
 ·grind
def hill{f s:Nat->Rat}{n:Nat}{e:Rat}(t:f 1=e)(u:f n=e)(up:∀i,1<=i->i<n->0<=s i->f i<=f (i+1))(v:∀i,1<=i->i<n->s i<=0->f (i+1)<=f i)
 (w:∀i k,1<=i->i<k->k<n->s i<=0->s k<=0)(i:Nat)(A:1<=i)(B:i<=n):e<=f i:=by
 have d:∀m,∀i,1<=i->i+m=n->(∀k,i<=k->k<n->s k<=0)->e<=f i:=by
  intro m;induction m with
  |zero=>intro i _ C _;rw[show i=n by omega,u];exact Kk
  |succ m o=>
   intro i g C j;have a:=o (i+1) vB vB (λk r=>j k vB);have b:=v i g vB (j i (Zk _) vB);exact K6 a b
 have p:∀m,m+1<=n->(∀k,1<=k->k<m+1->0<=s k)->e<=f (m+1):=by
  intro m;induction m with
  |zero=>intro _ _;rw[t];exact Kk
  |succ m o=>
   intro F j;have a:=o vB (λk g r=>j k g vB);have b:=up (m+1) vB vB (j (m+1) vB vB);exact K6 a b
 by_cases h:∃k,1<=k/\k<i/\s k<=0
 ·obtain⟨k,D,G,E⟩:=h
  exact d (n-i) i A vB (λl H q=>w k l D vB q E)
 ·have:=p (i-1) vB (λk g r=>by
   by_cases z:0<=s k
   ·exact z
   ·exact(h ⟨k,g,by omega,by grind⟩).elim)
  rwa [show i-1+1=i by omega] at this
def yhl(u v:V)(m:Rat)(p:V):xr u (pl p (m*v.1,m*v.2))=xr u p+m*xr u v:=by unfold xr pl;grind
def keeps{D P:Nat->V}{E:Nat->Rat}{n:Nat}(hD:∀i k,i<k->k<n->bf (D i) (D k))(p:∀i,i<n->xr (D i) (P i)=E i)(h:∀i,i<n->∃m,0<=m/\P ((i+1)%n)=pl (P i) (m*(D i).1,m*(D i).2))
 (i j:Nat)(q:i<n)(g:j<n):E j<=xr (D j) (P i):=by
 have self:∀u:V,xr u u=0:=λu=>by unfold xr;grind
 have key:=hill (f:=λi=>xr (D j) (P ((j+i)%n))) (s:=λi=>xr (D j) (D ((j+i)%n))) (n:=n) (e:=E j) ?_ ?_ ?_ ?_ ?_
 ·-- t place C i behind j
  by_cases z:j<i
  ·have:=key (i-j) vB vB
   rwa [show j+(i-j)=i by omega,Zt q] at this
  ·have:=key (n-j+i) vB vB
   rwa [show j+(n-j+i)=i+n by omega,Wp,Zt q] at this
 ·obtain⟨m,_,e⟩:=h j g
  show xr (D j) (P ((j+1)%n))=E j;rw[e,yhl,p j g,self];grind
 ·show xr (D j) (P ((j+n)%n))=E j;rw[Wp,Zt g,p j g]
 ·intro i r l d;obtain⟨m,o,e⟩:=h ((j+i)%n) (Qp _ vB)
  show xr (D j) (P ((j+i)%n))<=xr (D j) (P ((j+(i+1))%n));rw[show(j+(i+1))%n=((j+i)%n+1)%n by rw[Qu];rfl,e,yhl];have:=Z4 o d
  grind
 ·intro i r l d;obtain⟨m,o,e⟩:=h ((j+i)%n) (Qp _ vB)
  show xr (D j) (P ((j+(i+1))%n))<=xr (D j) (P ((j+i)%n));rw[show(j+(i+1))%n=((j+i)%n+1)%n by rw[Qu];rfl,e,yhl];have:=Z4 o (show 0 <= - xr (D j) (D ((j+i)%n)) by grind)
  grind
 ·intro i k r v w d;show xr (D j) (D ((j+k)%n))<=0;have d:xr (D j) (D ((j+i)%n))<=0:=d;by_cases a:j+k<n
  ·rw[Zt a];rw[Zt vB] at d;exact o1 (hD _ _ vB vB) (hD (j+i) (j+k) vB a) d
  ·have A:(j+k)%n=j+k-n:=by rw[K7 vB,Zt vB]
   rw[A];by_cases b:j+i<n
   ·rw[Zt b] at d;exact o3 (hD _ _ vB b) (hD (j+k-n) j vB g) d
   ·have B:(j+i)%n=j+i-n:=by rw[K7 vB,Zt vB]
    rw[B] at d;exact o2 (hD (j+i-n) (j+k-n) vB vB) (hD (j+k-n) j vB g) d
def gg(a b c:V)(d e f:Rat):Rat:=xr b c*d+xr c a*e+xr a b*f
def len{a b c p q:V}{f d h:Rat}(j:0<xr a b)(l:0<xr b c)(r:xr a p=f)(i:xr b p=d)(s:xr b q=d)(t:xr c q=h)(z:gg a b c f d h<=0):
  ∃m,0<=m/\q=pl p (m*b.1,m*b.2):=by
 have n:0<xr a b*xr b c:=Z6 j l;have u:xr a b*xr b c≠0:=by grind
 refine⟨- gg a b c f d h*(xr a b*xr b c)⁻¹,Z4 (by grind) (Ye (Jf.mpr n)),?_⟩
 have o:=W3 _ u;generalize B:(xr a b*xr b c)⁻¹=I at o |-;have v:(xr a b*xr b c)*(q.1-p.1) = - gg a b c f d h*b.1:=by
  unfold gg;rw[<-r,<-i,<-t];have e:xr b q=xr b p:=s.trans i.symm;unfold xr at *;grind
 have w:(xr a b*xr b c)*(q.2-p.2) = - gg a b c f d h*b.2:=by
  unfold gg;rw[<-r,<-i,<-t];have e:xr b q=xr b p:=s.trans i.symm;unfold xr at *;grind
 generalize gg a b c f d h=g at *;generalize xr a b*xr b c=A at *;apply Wx
 ·show q.1=p.1 + -g*I*b.1;have:I*(A*(q.1-p.1))=I*(-g*b.1):=by rw[v]
  grind
 ·show q.2=p.2 + -g*I*b.2;have:I*(A*(q.2-p.2))=I*(-g*b.2):=by rw[w]
  grind
end Fi
namespace Fi
open Mg
def nx(n i:Nat):Nat:=if i+1=n then 0 else i+1
def pv(n i:Nat):Nat:=if i=0 then n-1 else i-1
def er(k i:Nat):Nat:=if i<k then i else i+1
def zha{n i:Nat}(h:i<n):nx n i<n:=by unfold nx;split<;>omega
def zfa{n i:Nat}(h:i<n):pv n i<n:=by unfold pv;split<;>omega
def zen{n k i:Nat}(d:k<n)(h:i<n-1):er k i<n:=by unfold er;split<;>omega
def er_ne{k i:Nat}:er k i≠k:=by unfold er;split<;>omega
def zyy{k i j:Nat}(h:i<j):er k i<er k j:=by unfold er;split<;>split<;>omega
def ymd{n k i:Nat}(d:3<=n)(e:k<n)(h:i<n-1):er k (nx (n-1) i)=if nx n (er k i)=k then nx n k else nx n (er k i):=by
 unfold nx er;repeat' split
 all_goals omega
def er_pv{n k i:Nat}(d:3<=n)(e:k<n)(h:i<n-1):er k (pv (n-1) i)=if pv n (er k i)=k then pv n k else pv n (er k i):=by
 unfold pv er;repeat' split
 all_goals omega
def ycr{n i:Nat}(h:i<n):nx n (pv n i)=i:=by
 unfold nx pv;repeat' split
 all_goals omega
def ych{n i:Nat}(h:i<n):pv n (nx n i)=i:=by
 unfold nx pv;repeat' split
 all_goals omega
def zll{n i:Nat}(d:3<=n)(h:i<n):pv n i≠nx n i:=by
 unfold nx pv;repeat' split
 all_goals omega
def nx_mod{n i:Nat}(h:i<n):nx n i=(i+1)%n:=by
 unfold nx;split
 ·next e=>rw[e,Jr]
 ·rw[Zt vB]
def ee(c l:Nat->Rat)(t:Rat)(i:Nat):Rat:=c i-t*l i
def gi(D:Nat->V)(c l:Nat->Rat)(n:Nat)(t:Rat)(i:Nat):Rat:=gg (D (pv n i)) (D i) (D (nx n i)) (ee c l t (pv n i)) (ee c l t i) (ee c l t (nx n i))
structure Ok(D:Nat->V)(c l:Nat->Rat)(n:Nat)(t:Rat):Prop where
 three:3<=n
 srt:∀i k,i<k->k<n->bf (D i) (D k)
 bend:∀i,i<n->0<xr (D i) (D (nx n i))
 lens:∀i,i<n->gi D c l n t i<=0
def yle{a b c d:V}{f e g ed:Rat}(h:gg b c d e g ed=0):xr b c*gg a b d f e ed=xr b d*gg a b c f e g:=by
 unfold gg xr at *;grind
def ydu{b c d f:V}{e g ed h:Rat}(i:gg b c d e g ed=0):xr c d*gg b d f e ed h=xr b d*gg c d f g ed h:=by
 unfold gg xr at *;grind
def zoo{A B g d:Rat}(f:0<A)(i:0<B)(e:A*d=B*g)(h:g<=0):d<=0:=by
 have a:=Z4 (Ye i) (show 0 <= -g by grind);have:0 <= -d:=zbe f (by grind)
 grind
def Ok.drop{D:Nat->V}{c l:Nat->Rat}{n k:Nat}{t o:Rat}(O:Ok D c l n t)(d:k<n)(r:∀i,i<n->gi D c l n o i<=0)(q:gi D c l n o k=0)(A:xr (D (nx n k)) (D (pv n k))<0):
  Ok (λi=>D (er k i)) (λi=>c (er k i)) (λi=>l (er k i)) (n-1) o/\4<=n:=by
 have h:0<xr (D (pv n k)) (D (nx n k)):=by rw[zft];grind
 have p:4<=n:=by
  rcases Yf 3 n with z|z
  ·exact z
  ·have w:n=3:=by have:=O.three;omega
   have:=O.bend (nx n k) (zha d)
   have e:nx n (nx n k)=pv n k:=by
    subst w;unfold nx pv;repeat' split
    all_goals omega
   rw[e] at this;grind
 refine⟨⟨by omega,λi j s f=>O.srt _ _ (zyy s) (zen d f),λi m=>?_,λi m=>?_⟩,p⟩
 ·show 0<xr (D (er k i)) (D (er k (nx (n-1) i)));rw[ymd O.three d m];split
  ·next z=>
   have:er k i=pv n k:=by
    have:=ych (zen d m)
    rw[z] at this;exact this.symm
   rw[this];exact h
  ·exact O.bend _ (zen d m)
 ·show gg (D (er k (pv (n-1) i))) (D (er k i)) (D (er k (nx (n-1) i))) (ee c l o (er k (pv (n-1) i))) (ee c l o (er k i)) (ee c l o (er k (nx (n-1) i)))<=0;rw[ymd O.three d m,er_pv O.three d m];have f:=zen d m;have B:=er_ne (k:=k) (i:=i);generalize er k i=j at *;split
  ·next z=>
   have u:j=nx n k:=by
    have:=ycr f
    rw[z] at this;exact this.symm
   subst u;rw[if_neg (λy=>by
    have:=zll O.three f
    rw[z,y] at this;exact this rfl)]
   have g:=r (nx n k) f;unfold gi at g q;rw[z] at g;exact zoo (O.bend k d) h (ydu q) g
  ·next z=>
   split
   ·next y=>
    have u:j=pv n k:=by
     have:=ych f
     rw[y] at this;exact this.symm
    subst u;have g:=r (pv n k) f;unfold gi at g q;rw[y] at g;have v:=O.bend (pv n k) f;rw[y] at v;exact zoo v h (yle q) g
   ·exact r j f
def still{D:Nat->V}{c l:Nat->Rat}{n k:Nat}{s:Rat}{x:V}(j:xr (D (nx n k)) (D (pv n k))<0)(d:0<xr (D (pv n k)) (D k))(f:0<xr (D k) (D (nx n k)))(g:0<=gi D c l n s k)
 (o:ee c l s (pv n k)<=xr (D (pv n k)) x)(p:ee c l s (nx n k)<=xr (D (nx n k)) x):ee c l s k<=xr (D k) x:=by
 unfold gi gg at g;generalize D (pv n k)=a at *;generalize D (nx n k)=b at *;generalize D k=m at *;generalize ee c l s (pv n k)=h at *;generalize ee c l s (nx n k)=i at *;generalize ee c l s k=em at *;have q:=Z4 (Ye f) (show 0<=xr a x-h by grind);have r:=Z4 (Ye d) (show 0<=xr b x-i by grind);have e:xr m b*xr a x+xr a m*xr b x = - xr b a*xr m x:=by unfold xr;grind
 have:0<=xr m x-em:=zbe (b:=- xr b a) (by grind) (by grind)
 grind
end Fi
namespace Fi
open Mg
def mt(a b:V)(d e:Rat):V:=((d*b.1-e*a.1)*(xr a b)⁻¹,(d*b.2-e*a.2)*(xr a b)⁻¹)
def mt_l{a b:V}{d e:Rat}(h:0<xr a b):xr a (mt a b d e)=d:=by
 have i:=W3 _ (show xr a b≠0 by grind);unfold mt;generalize f:(xr a b)⁻¹=I at *;have:xr a ((d*b.1-e*a.1)*I,(d*b.2-e*a.2)*I)=d*(xr a b*I):=by unfold xr;grind
 rw[this,i];grind
def mt_r{a b:V}{e d:Rat}(h:0<xr a b):xr b (mt a b e d)=d:=by
 have i:=W3 _ (show xr a b≠0 by grind);unfold mt;generalize f:(xr a b)⁻¹=I at *;have:xr b ((e*b.1-d*a.1)*I,(e*b.2-d*a.2)*I)=d*(xr a b*I):=by unfold xr;grind
 rw[this,i];grind
section
variable{D:Nat->V}{c l:Nat->Rat}{n:Nat}{t:Rat}
def mi(D:Nat->V)(c l:Nat->Rat)(n:Nat)(t:Rat)(i:Nat):V:=mt (D (pv n i)) (D i) (ee c l t (pv n i)) (ee c l t i)
def Ok.bendp(O:Ok D c l n t){i:Nat}(d:i<n):0<xr (D (pv n i)) (D i):=by
 have:=O.bend (pv n i) (zfa d)
 rwa [ycr d] at this
theorem Ok.keeps(O:Ok D c l n t)(i j:Nat)(d:i<n)(e:j<n):ee c l t j<=xr (D j) (mi D c l n t i):=by
 refine Fi.keeps (D:=D) (P:=mi D c l n t) (E:=ee c l t) O.srt (λi d=>mt_r (O.bendp d)) (λi d=>?_) i j d e;rw[<-nx_mod d];refine Fi.len (O.bendp d) (O.bend i d) (mt_l (O.bendp d)) (mt_r (O.bendp d)) ?_ ?_ (O.lens i d)
 ·unfold mi;rw[ych d];exact mt_l (O.bend i d)
 ·unfold mi;rw[ych d];exact mt_r (O.bend i d)
def tp(D:Nat->V)(c:Nat->Rat)(n i:Nat):Rat:=- gg (D (pv n i)) (D i) (D (nx n i)) (c (pv n i)) (c i) (c (nx n i))
def ydt{i:Nat}:gi D c l n t i=t*tp D l n i-tp D c n i:=by unfold gi tp gg ee;grind
def Span(D:Nat->V)(n:Nat):Prop:=∀u:V,(∀i,i<n->0<=xr (D i) u)->u=(0,0)
def Span.drop{k:Nat}(S:Span D n)(O:Ok D c l n t)(f:k<n)(e:xr (D (nx n k)) (D (pv n k))<0):Span (λi=>D (er k i)) (n-1):=λu h=>by
 have all:∀j,j<n->j≠k->0<=xr (D j) u:=λj g m=>by
  rcases Yf j k with z|z
  ·have:=h j vB
   simp only[er,if_pos z] at this;exact this
  ·have:=h (j-1) vB
   simp only[er,if_neg (show ¬j-1<k by omega),show j-1+1=j by omega] at this;exact this
 refine S u λi d=>?_;by_cases z:i=k
 ·subst z;have a:=all (pv n i) (zfa d) (by unfold pv;have:=O.three;split<;>omega);have b:=all (nx n i) (zha d) (by unfold nx;have:=O.three;split<;>omega);have:=still (c:=λ_=>0) (l:=λ_=>0) (s:=0) (x:=u) e (O.bendp d) (O.bend i d) (by unfold gi gg ee;grind) (by unfold ee;grind) (by unfold ee;grind)
  unfold ee at this;grind
 ·exact all i d z
def Ok.some(O:Ok D c l n t)(S:Span D n){v e:V}(f:v≠e)(g:∀i,i<n->l i<=xr (D i) v)(h:∀i,i<n->l i<=xr (D i) e):∃i,i<n/\0<tp D l n i:=by
 apply Wv
 intro m;have o:Ok D (λi=>- l i) (λ_=>0) n 0:=⟨O.three,O.srt,O.bend,λi d=>by
  have:¬0<tp D l n i:=λz=>m ⟨i,d,z⟩
  unfold tp at this;unfold gi gg ee at *;grind⟩
 have q:0<n:=by have:=O.three;omega
 have k:=λj r=>o.keeps 0 j q r
 generalize mi D (λi=>- l i) (λ_=>0) n 0 0=p at k;have key:∀w:V,(∀i,i<n->l i<=xr (D i) w)->w=ng p:=λw s=>by
  have:=S (pl w p) (λi d=>by
   have a:=s i d;have b:=k i d;unfold ee at b;rw[xr_pl];grind)
  have u:w.1+p.1=0:=congrArg Prod.fst this;have A:w.2+p.2=0:=congrArg Prod.snd this;apply Wx
  ·show w.1 = - p.1;grind
  ·show w.2 = - p.2;grind
 exact f ((key v g).trans (key e h).symm)
def Ok.until(O:Ok D c l n t){k:Nat}{d:Rat}(h:k<n)(j:0<tp D l n k)(p:d*tp D l n k=tp D c n k)(m:∀i,i<n->0<tp D l n i->d*tp D l n i<=tp D c n i):
  t<=d/\(∀i,i<n->gi D c l n d i<=0)/\gi D c l n d k=0:=by
 have g:=O.lens k h;rw[ydt] at g;have o:t<=d:=by
  by_cases z:t<=d
  ·exact z
  ·have:=Z6 (show 0<t-d by grind) j
   grind
 refine⟨o,λi f=>?_,by rw[ydt];grind⟩
 have e:=O.lens i f;rw[ydt] at e |-;by_cases z:0<tp D l n i
 ·have:=m i f z;grind
 ·have:=Z4 (show 0<=d-t by grind) (show 0 <= - tp D l n i by grind)
  grind
def Ok.back(O:Ok D c l n t){k:Nat}{e s:Rat}{x:V}(m:k<n)(f:0<tp D l n k)(o:e*tp D l n k=tp D c n k)(p:e<=s)(g:xr (D (nx n k)) (D (pv n k))<0)
 (h:∀i,i<n-1->ee c l s (er k i)<=xr (D (er k i)) x):∀i,i<n->ee c l s i<=xr (D i) x:=λi d=>by
 have all:∀j,j<n->j≠k->ee c l s j<=xr (D j) x:=λj q r=>by
  rcases Yf j k with z|z
  ·have:=h j vB
   simp only[er,if_pos z] at this;exact this
  ·have:=h (j-1) vB
   simp only[er,if_neg (show ¬j-1<k by omega),show j-1+1=j by omega] at this;exact this
 by_cases z:i=k
 ·subst z;have:=Z4 (show 0<=s-e by grind) (Ye f)
  exact still g (O.bendp d) (O.bend i d) (by rw[ydt];grind) (all _ (zfa d) (by unfold pv;have:=O.three;split<;>omega)) (all _ (zha d) (by unfold nx;have:=O.three;split<;>omega))
 ·exact all i d z
end
end Fi
namespace Fi
open Mg
def sm(m:Rat)(u:V):V:=(m*u.1,m*u.2)
def ztq{m:Rat}{u:V}(h:0<m)(k:up u):up (sm m u):=by
 rcases k with k|⟨k,d⟩
 ·exact .inl (Z6 h k)
 ·exact .inr ⟨by show m*u.1=0;rw[k];grind,Z6 h d⟩
def yke{m:Rat}{u:V}:ng (sm m u)=sm m (ng u):=by unfold ng sm;exact Wx (by dsimp only;grind) (by dsimp only;grind)
def zvk{m k:Rat}{u v:V}:xr (sm m u) (sm k v)=m*k*xr u v:=by unfold xr sm;grind
def zmy{m:Rat}{u v:V}:xr (sm m u) v=m*xr u v:=by unfold xr sm;grind
def bf_sm{m k:Rat}{u v:V}(d:0<m)(e:0<k)(h:bf u v):bf (sm m u) (sm k v):=by
 rcases h with⟨a,b⟩|⟨a,b,c⟩|⟨a,b,c⟩
 ·exact .inl ⟨ztq d a,by rw[yke];exact ztq e b⟩
 ·exact .inr (.inl ⟨ztq d a,ztq e b,by rw[zvk];exact Z6 (Z6 d e) c⟩)
 ·exact .inr (.inr ⟨by rw[yke];exact ztq d a,by rw[yke];exact ztq e b,by rw[zvk];exact Z6 (Z6 d e) c⟩)
def Off(D:Nat->V)(c:Nat->Rat)(n:Nat):Prop:=∀i,i<n->∃x,(∀j,j<n->c j<=xr (D j) x)/\c i<xr (D i) x
section
variable{D P:Nat->V}{c l:Nat->Rat}{n:Nat}
structure Sds(D P:Nat->V)(c:Nat->Rat)(n:Nat):Prop where
 poly:Poly P n
 way:∀i,i<n->∃m,0<m/\D i=sm m (ed P i)
 on:∀i,i<n->c i=xr (D i) (P i)
def ed_n(h:Poly P n):ed P n=ed P 0:=by
 unfold ed;have a:=h.per 0;have b:=h.per 1;rw[show 0+n=n by omega] at a;rw[show 1+n=n+1 by omega] at b;rw[a,b]
def P_nx(h:Poly P n){i:Nat}(d:i<n):P (nx n i)=P (i+1)/\ed P (nx n i)=ed P (i+1):=by
 unfold nx;split
 ·next e=>
  have a:=h.per 0;rw[show 0+n=n by omega] at a;rw[e,a,ed_n h];exact⟨rfl,rfl⟩
 ·exact⟨rfl,rfl⟩
def Sds.bend(S:Sds D P c n){i:Nat}(d:i<n):0<xr (D i) (D (nx n i)):=by
 obtain⟨m,g,e⟩:=S.way i d
 obtain⟨k,h,f⟩:=S.way (nx n i) (zha d)
 rw[e,f,(P_nx S.poly d).2,zvk];exact Z6 (Z6 g h) (S.poly.turn i)
def Sds.on2(S:Sds D P c n){i:Nat}(d:i<n):c i=xr (D i) (P (nx n i)):=by
 obtain⟨m,f,e⟩:=S.way i d
 rw[S.on i d,(P_nx S.poly d).1,e];unfold sm ed mn xr;grind
def gg_len{a b c p:V}{m:Rat}:gg a b c (xr a p) (xr b p) (xr c (pl p (m*b.1,m*b.2))) = - m*xr a b*xr b c:=by unfold gg xr pl;grind
def Sds.ok(S:Sds D P c n):Ok D c l n 0:=by
 have g:=S.poly.three;refine⟨g,λi k h q=>?_,λi d=>S.bend d,λi d=>?_⟩
 ·obtain⟨m,j,e⟩:=S.way i vB
  obtain⟨w,o,f⟩:=S.way k q
  rw[e,f];exact bf_sm j o (S.poly.srt h q)
 ·obtain⟨m,j,e⟩:=S.way i d
  have r:=S.bend (zfa d);rw[ycr d] at r;have s:=S.bend d;have t:c (pv n i)=xr (D (pv n i)) (P i):=by
   have:=S.on2 (zfa d)
   rwa [ycr d] at this
  have mi:=Jf.mpr j;have u:P (nx n i)=pl (P i) (m⁻¹*(D i).1,m⁻¹*(D i).2):=by
   have z:=W3 m (by grind);rw[(P_nx S.poly d).1,e];generalize m⁻¹=I at *;unfold pl sm ed mn;exact Wx (by dsimp only;grind) (by dsimp only;grind)
  have v:gi D c l n 0 i = - m⁻¹*xr (D (pv n i)) (D i)*xr (D i) (D (nx n i)):=by
   unfold gi ee;rw[t,S.on i d,S.on (nx n i) (zha d),u,<-gg_len (p:=P i)];unfold gg;grind
  rw[v];have:=Z4 (Z4 (Ye mi) (Ye r)) (Ye s)
  grind
def Sds.span(S:Sds D P c n):Span D n:=λu h=>by
 have l:=S.poly.three;have o:∀i,i<n->0<=xr (ed P i) u:=λi d=>by
  obtain⟨m,q,e⟩:=S.way i d
  have:=h i d
  rw[e,zmy,V0] at this;exact zbe q this
 have f:∀i,xr (ed P i) u=xr (P (i+1)) u-xr (P i) u:=λi=>by unfold ed mn xr;grind
 have g:∀k i,i+k<=n->xr (P i) u<=xr (P (i+k)) u:=by
  intro k;induction k with
  |zero=>intro i _;exact Kk
  |succ k r=>
   intro i d;have a:=r i vB;have b:=o (i+k) vB;rw[f] at b;rw[show i+(k+1)=i+k+1 by omega];grind
 have j:∀i,i<n->xr (ed P i) u=0:=λi d=>by
  have a:=g i 0 vB;have b:=g (n-(i+1)) (i+1) vB;have p:=S.poly.per 0;rw[show i+1+(n-(i+1))=0+n by omega,p] at b;rw[show 0+i=i by omega] at a;have s:=o i d;rw[f] at s |-;grind
 have t:=S.poly.turn 0;have a:=j 0 vB;have b:=j 1 vB;have v:0<xr (ed P 0) (ed P 1):=t;generalize ed P 0=x at *;generalize ed P 1=y at *;have w:xr x y*u.1=xr x u*y.1-xr y u*x.1:=by unfold xr;grind
 have A:xr x y*u.2=xr x u*y.2-xr y u*x.2:=by unfold xr;grind
 rw[a,b] at w A;have z:xr x y≠0:=by grind
 apply Wx
 ·exact(Kf.mp (show xr x y*u.1=0 by grind)).resolve_left z
 ·exact(Kf.mp (show xr x y*u.2=0 by grind)).resolve_left z
def Sds.corner(S:Sds D P c n)(k:Nat){i:Nat}(d:i<n):c i<=xr (D i) (P k):=by
 obtain⟨m,f,e⟩:=S.way i d
 have:=Z4 (Ye f) (S.poly.conv i k)
 rw[S.on i d,e,zmy,zmy];have g:xr (mn (P (i+1)) (P i)) (mn (P k) (P i))=xr (ed P i) (P k)-xr (ed P i) (P i):=by unfold ed mn xr;grind
 rw[g] at this;grind
def Sds.off(S:Sds D P c n):Off D c n:=λi d=>by
 refine⟨P (i+2),λj f=>S.corner _ f,?_⟩
 obtain⟨m,g,e⟩:=S.way i d
 have:=Z6 g (S.poly.turn i)
 rw[S.on i d,e,zmy,zmy];have h:xr (mn (P (i+1)) (P i)) (mn (P (i+2)) (P (i+1)))=xr (ed P i) (P (i+2))-xr (ed P i) (P i):=by unfold ed mn xr;grind
 rw[h] at this;grind
def Off.drop{k:Nat}(h:Off D c n)(d:k<n):Off (λi=>D (er k i)) (λi=>c (er k i)) (n-1):=λi e=>by
 obtain⟨x,f,g⟩:=h (er k i) (zen d e)
 exact⟨x,λj l=>f _ (zen d l),g⟩
def Off.pos{t:Rat}(h:Off D c n)(O:Ok D c l n t){k:Nat}(f:k<n)(i:0<=xr (D (nx n k)) (D (pv n k))):0<tp D c n k:=by
 obtain⟨x,g,j⟩:=h (pv n k) (zfa f)
 have a:=Z6 (O.bend k f) (show 0<xr (D (pv n k)) x-c (pv n k) by grind);have b:=Z4 i (show 0<=xr (D k) x-c k by have:=g k f;grind);have d:=Z4 (Ye (O.bendp f)) (show 0<=xr (D (nx n k)) x-c (nx n k) by have:=g _ (zha f);grind);unfold tp gg;have e:xr (D k) (D (nx n k))*xr (D (pv n k)) x+xr (D (nx n k)) (D (pv n k))*xr (D k) x+xr (D (pv n k)) (D k)*xr (D (nx n k)) x=0:=by unfold xr;grind
 grind
end
end Fi
open Sf
def bD(a:PySem.Addr)(p:Int)(h:H3)(x:Rat)(d:D):D:=.obj a [.int p,hD h,fr x,d]
section
variable{Γ:Nat->∅}
def zcf:∅:=run (tab []) zdp 2
def ok_trio_at:∀d w,d.length=2->zcf d=some w->run Γ zdp 2 d=some w:=λd w _ h=>zbx [] (λp e=>by cases e) vA d w h
def yax{L:List D}{k:Int}{x y z:D}(d:L.length≠0)(e:L2.atI L (k-1)=some x)(f:L2.atI L k=some y)(g:L2.atI L ((k+1).fmod L.length)=some z):zcf [.lst L,.int k]=some (.val (.tup [x,y,z])):=by
 unfold zcf zdp;generalize tab []=Γ;have h:((L.length:Nat):Int)≠0:=by omega
 walk_at "evh"
def zac:∅:=run (tab [(81,zcd)]) zbu 4
def ok_weights_of(e:Γ 81=zcd):∀d w,d.length=1->zac d=some w->run Γ zbu 4 d=some w:=λd w _ h=>zbx [(81,zcd)] (λp f=>by simp only[Zg,Zn,or_false] at f;subst f;exact e) vA d w h
def zeh{a0 a1 a2:PySem.Addr}{p0 p1 p2:Int}{d e f:H3}{x0 x1 x2:Rat}{c0 c1 c2:D}(h:HB 3000 d)(i:HB 3000 e)(j:HB 3000 f):
  zac [.tup [bD a0 p0 d x0 c0,bD a1 p1 e x1 c1,bD a2 p2 f x2 c2]]=some (.new [.int (crI e f),.int (crI f d),.int (crI d e)]):=by
 unfold zac zbu bD;generalize g:tab [(81,zcd)]=Γ;have l:Γ 81=zcd:=by rw[<-g];rfl
 have m:=zfm i j;have n:=zfm j h;have o:=zfm h i;have p:lf (hD d)=true:=rfl;have l1:lf (hD e)=true:=rfl;have l2:lf (hD f)=true:=rfl;clear g h i j;walk_at "evh"
def zoh:∅:=run (tab [(92,zcf),(93,zac)]) zcw 2
def ok_ends_all(f:Γ 92=zcf)(g:Γ 93=zac):∀d w,d.length=2->zoh d=some w->run Γ zcw 2 d=some w:=λd w _ h=>zbx [(92,zcf),(93,zac)] (λp e=>by
 simp only[Zg,Zn,or_false] at e;rcases e with rfl|rfl<;>assumption) vA d w h
def yeb{L:List D}{k:Int}{T:D}{u v w:Int}(g:zcf [.lst L,.int k]=some (.val T))(h:zac [T]=some (.new [.int u,.int v,.int w])):zoh [.lst L,.int k]=some (.val (.bl (decide (0<=v)))):=by
 unfold zoh zcw;generalize d:tab [(92,zcf),(93,zac)]=Γ;have e:Γ 92=zcf:=by rw[<-d];rfl
 have f:Γ 93=zac:=by rw[<-d];rfl
 clear d;walk_at "evh"
end
open Sf
section
variable{Γ:Nat->∅}
def zja:∅:=run (tab [(10,zaq),(11,zae)]) zdq 2
def ok_edge_by(f:Γ 10=zaq)(g:Γ 11=zae):∀d w,d.length=2->zja d=some w->run Γ zdq 2 d=some w:=λd w _ h=>zbx [(10,zaq),(11,zae)] (λp e=>by
 simp only[Zg,Zn,or_false] at e;rcases e with rfl|rfl<;>assumption) vA d w h
def zsw{a:PySem.Addr}{p:Int}{h:H3}{x t:Rat}{cl:D}{m n q:Nat}(e:Sz m (h.2.2:Rat))(f:Sz n t)(g:Sz q x)(j:m<=4400)(l:n<=4400)(o:q<=4400)(i:Sz 4400 (t*x)):
  zja [bD a p h x cl,fr t]=some (.val (fr ((h.2.2:Rat)-t*x))):=by
 have u:zae [fr t,fr x]=some (.val (fr (t*x))):=zal (Bw f g l o);have v:zaq [.tup [.int h.2.2,.int 1],fr (t*x)]=some (.val (fr ((h.2.2:Rat)-t*x))):=zal (x:=(h.2.2:Rat)) (Bw e i j vA);unfold zja zdq bD;generalize d:tab [(10,zaq),(11,zae)]=Γ;have r:Γ 10=zaq:=by rw[<-d];rfl
 have s:Γ 11=zae:=by rw[<-d];rfl
 have w:hD h=.tup [.int h.1,.int h.2.1,.int h.2.2]:=rfl;generalize fr (t*x)=X at *;generalize fr ((h.2.2:Rat)-t*x)=Y at *;generalize fr t=Z at *;generalize fr x=z at *;clear d e f g i;walk_at "evh"
def zdt:∅:=run (tab [(10,zaq),(11,zae),(20,zlw),(81,zcd),(99,zja)]) zcu 8
def ok_meeting(f:Γ 10=zaq)(g:Γ 11=zae)(i:Γ 20=zlw)(j:Γ 81=zcd)(l:Γ 99=zja):∀d w,d.length=3->zdt d=some w->run Γ zcu 8 d=some w:=λd w _ h=>zbx [(10,zaq),(11,zae),(20,zlw),(81,zcd),(99,zja)] (λp e=>by
 simp only[Zg,Zn,or_false] at e;rcases e with rfl|rfl|rfl|rfl|rfl<;>assumption) vA d w h
def zqj{h10:Γ 10=zaq}{h11:Γ 11=zae}{h20:Γ 20=zlw}{h81:Γ 81=zcd}{h99:Γ 99=zja}{a g:PySem.Addr}{p i:Int}{h d:H3}{x f:Rat}{j e T E1 E2 l m n o X Y q s:D}{r:Int}
 (l1:lf E1=true)(l2:lf E2=true)(v:lf X=true)(w:lf Y=true)
 (z:zja [bD a p h x j,T]=some (.val E1))(A:zja [bD g i d f e,T]=some (.val E2))(B:zcd [hD h,hD d]=some (.val (.int r)))
 (C:zae [.tup [.int d.2.1,.int 1],E1]=some (.val l))(E:zae [.tup [.int h.2.1,.int 1],E2]=some (.val m))(F:zaq [l,m]=some (.val X))
 (G:zae [.tup [.int h.1,.int 1],E2]=some (.val n))(H:zae [.tup [.int d.1,.int 1],E1]=some (.val o))(I:zaq [n,o]=some (.val Y))
 (t:zlw [X,.tup [.int r,.int 1]]=some (.val q))(u:zlw [Y,.tup [.int r,.int 1]]=some (.val s)):
  run Γ zcu 8 [bD a p h x j,bD g i d f e,T]=some (.val (.tup [q,s])):=by
 unfold bD hD at *;unfold zcu;generalize fr x=Z at *;generalize fr f=J at *;walk_at "evh"
def zqk{a a':PySem.Addr}{p p':Int}{h d:H3}{x i t:Rat}{cl cl':D}(j:HB 900 h)(f:HB 900 d)(o:Sz 900 t)(B:Sz 400 x)(n:Sz 400 i)(F:crI h d≠0)(l:Sz 1100 ((h.2.2:Rat)-t*x))(m:Sz 1100 ((d.2.2:Rat)-t*i)):
  zdt [bD a p h x cl,bD a' p' d i cl',fr t]=some (.val (stD ((((d.2.1:Rat)*((h.2.2:Rat)-t*x)-(h.2.1:Rat)*((d.2.2:Rat)-t*i))/(crI h d:Rat)),((h.1:Rat)*((d.2.2:Rat)-t*i)-(d.1:Rat)*((h.2.2:Rat)-t*x))/(crI h d:Rat)))):=by
 have G:=zax (a:=h.2.2) j.c vA;have H:=zax (a:=d.2.2) f.c vA;have q:=zax (a:=h.1) j.a vA;have s:=zax (a:=d.1) f.a vA;have u:=zax (a:=h.2.1) j.b vA;have v:=zax (a:=d.2.1) f.b vA;have I:=zsw (a:=a) (p:=p) (cl:=cl) G o B vA vA vA ((o.mul B).mono vA);have J:=zsw (a:=a') (p:=p') (cl:=cl') H o n vA vA vA ((o.mul n).mono vA);have K:HB 3000 h:=⟨Zf j.a (Bo vA),Zf j.b (Bo vA),Zf j.c (Bo vA)⟩;have L:HB 3000 d:=⟨Zf f.a (Bo vA),Zf f.b (Bo vA),Zf f.c (Bo vA)⟩;have C:Sz 3601 ((crI h d:Int):Rat):=by
  have e:((crI h d:Int):Rat)=(h.1:Rat)*(d.2.1:Rat)-(h.2.1:Rat)*(d.1:Rat):=by
   unfold crI;rw[Qt,Zy,Zy]
  rw[e];exact((q.mul v).sub (u.mul s)).mono vA
 have E:((crI h d:Int):Rat)≠0:=λz=>F (Qk.mp z)
 unfold zdt;generalize g:tab [(10,zaq),(11,zae),(20,zlw),(81,zcd),(99,zja)]=Γ;generalize M:(h.2.2:Rat)-t*x=w at *;generalize N:(d.2.2:Rat)-t*i=A at *;refine zqj (h10:=by rw[<-g];rfl) (h11:=by rw[<-g];rfl) (h20:=by rw[<-g];rfl) (h81:=by rw[<-g];rfl) (h99:=by rw[<-g];rfl) (E1:=fr w) (E2:=fr A) (r:=crI h d) rfl rfl (X:=fr ((d.2.1:Rat)*w-(h.2.1:Rat)*A)) (Y:=fr ((h.1:Rat)*A-(d.1:Rat)*w)) rfl rfl I J (zfm K L)
  (zal (x:=(d.2.1:Rat)) (Bw v l vA vA)) (zal (x:=(h.2.1:Rat)) (Bw u m vA vA)) (zal (Bw (v.mul l) (u.mul m) vA vA))
  (zal (x:=(h.1:Rat)) (Bw q m vA vA)) (zal (x:=(d.1:Rat)) (Bw s l vA vA)) (zal (Bw (q.mul m) (s.mul l) vA vA))
  (zal (y:=((crI h d:Int):Rat)) ?_) (zal (y:=((crI h d:Int):Rat)) ?_)
 ·rw[Bw ((v.mul l).sub (u.mul m)) C vA vA,decide_eq_true E];rfl
 ·rw[Bw ((q.mul m).sub (s.mul l)) C vA vA,decide_eq_true E];rfl
def zbk:∅:=run (tab []) zer 2
def ok_belowR:∀d w,d.length=2->zbk d=some w->run Γ zer 2 d=some w:=λd w _ h=>zbx [] (λp e=>by cases e) vA d w h
def zvd{a b c d:Int}(e:Bn a d=true)(f:Bn c b=true):zbk [.tup [.int a,.int b],.tup [.int c,.int d]]=some (.val (.bl (decide (a*d<c*b)))):=by
 unfold zbk zer;generalize tab []=Γ;walk_at "evh"
end
open Sf
section
variable{Γ:Nat->∅}
def clD:Option (Int×Int)->D
 |none=>.non
 |some p=>.tup [.int p.1,.int p.2]
def fD:Option Nat->D
 |none=>.non
 |some j=>.int (j:Int)
def Best(d:Nat->Option (Int×Int))(k:Nat)(f:Option Nat):Prop:=match f with
 |none=>∀i,i<k->d i=none
 |some j=>j<k/\∃p,d j=some p/\∀i q,i<k->d i=some q->p.1*q.2<=q.1*p.2
def zbr:∅:=run (tab [(21,zbk)]) zcx 4
def ok_earliest(e:Γ 21=zbk):∀d w,d.length=1->zbr d=some w->run Γ zcx 4 d=some w:=λd w _ h=>zbx [(21,zbk)] (λp f=>by
 simp only[Zg,Zn,or_false] at f;subst f;exact e) vA d w h
abbrev zms:Ss:=#v[.asg 3 (.fld (.ix (.var 0) (.var 2)) 3),.iff (.and (.cmp .notN (.var 3) .non) (.or (.cmp .isN (.var 1) .non) (.call 21 #v[.var 3,.fld (.ix (.var 0) (.var 1)) 3]))) #v[.asg 1 (.var 2)] .nil]
def yec{L:List D}{j:Nat}{a:PySem.Addr}{p:Int}{s l f:D}{d:Option B}(e:lf f=true)(h:L2.atI L (j:Int)=some (.obj a [.int p,s,l,.non])):
  exs Γ zms [~~~.lst L,~~~f,~~~.int (j:Int),d]=some (.nx [~~~.lst L,~~~f,~~~.int (j:Int),~~~.non]):=by
 walk_at "evh"
def zyz{L:List D}{j:Nat}{a:PySem.Addr}{p t b:Int}{s l:D}{d:Option B}(h:L2.atI L (j:Int)=some (.obj a [.int p,s,l,.tup [.int t,.int b]])):
  exs Γ zms [~~~.lst L,~~~.non,~~~.int (j:Int),d]=some (.nx [~~~.lst L,~~~.int (j:Int),~~~.int (j:Int),~~~.tup [.int t,.int b]]):=by
 walk_at "evh"
def yed(f:Γ 21=zbk){L:List D}{j i:Nat}{a g:PySem.Addr}{p m t b d e:Int}{s l n o:D}{u:Option B}{r:Bool}(h:L2.atI L (j:Int)=some (.obj a [.int p,s,l,.tup [.int t,.int b]]))(v:L2.atI L (i:Int)=some (.obj g [.int m,n,o,.tup [.int d,.int e]]))
 (q:zbk [.tup [.int t,.int b],.tup [.int d,.int e]]=some (.val (.bl r))):
  exs Γ zms [~~~.lst L,~~~.int (i:Int),~~~.int (j:Int),u]=some (.nx [~~~.lst L,~~~(.int (if r=true then(j:Int) else(i:Int))),~~~.int (j:Int),~~~.tup [.int t,.int b]]):=by
 cases r
 ·walk_at "evh"
 ·walk_at "evh"
def yae{f:Nat->Option (Int×Int)}{k i:Nat}{p q:Int×Int}(l:∀i q,f i=some q->0<q.2)(h:Best f k (some i))(n:f i=some p)(g:f k=some q):Best f (k+1) (some (if q.1*p.2<p.1*q.2 then k else i)):=by
 obtain⟨o,A,e,m⟩:=h
 rw[n] at e;cases e;have s:=l _ _ n;have t:=l _ _ g;by_cases z:q.1*p.2<p.1*q.2
 ·rw[if_pos z];refine⟨Wj _,q,g,λj r u d=>?_⟩
  rcases Yf j k with c|c
  ·have a:=m j r c d;have v:=l _ _ d;have B:q.1*p.2*r.2<=p.1*q.2*r.2:=Qj (W4 z) (W4 v);have C:p.1*r.2*q.2<=r.1*p.2*q.2:=Qj a (W4 t);have w:(q.1*r.2)*p.2<=(r.1*q.2)*p.2:=by grind
   exact Int.le_of_mul_le_mul_right w s
  ·have:j=k:=by omega
   subst this;rw[g] at d;cases d;exact Gn _
 ·rw[if_neg z];refine⟨by omega,p,n,λj r u d=>?_⟩
  rcases Yf j k with c|c
  ·exact m j r c d
  ·have:j=k:=by omega
   subst this;rw[g] at d;cases d;omega
end
open Sf
section
variable{Γ:Nat->∅}
def zbs{g:D->RhoS->Option RhoS}{h:RhoS->Option Out}{d:D}{l:List D}{i e f:RhoS}(j:g d i=some e)(m:h e=some (.nx f)):forN g h (d::l) i=forN g h l f:=by
 conv=>lhs;unfold forN
 rw[j];simp only;rw[m]
abbrev yhe:Ss:=#v[.asg 1 (.bin .mul (.var 1) (.ix (.fld (.var 2) 2) (.int 1)))]
abbrev yhd:Ss:=#v[.asg 3 (.bin .sub (.var 3) (.bin .mul (.bin .mul (.var 5) (.ix (.fld (.var 2) 1) (.int 2))) (.var 1))),.asg 4 (.bin .sub (.var 4) (.bin .mul (.bin .mul (.var 5) (.ix (.fld (.var 2) 2) (.int 0))) (.bin .fdiv (.var 1) (.ix (.fld (.var 2) 2) (.int 1)))))]
def zqz{a:PySem.Addr}{T p s e:D}{c n d:Int}{f g i j:Option B}(h:Bn c d=true):
  exs Γ yhe [~~~T,~~~.int c,~~~.obj a [p,s,.tup [.int n,.int d],e],f,g,i,j]=some (.nx [~~~T,~~~.int (c*d),~~~.obj a [p,s,.tup [.int n,.int d],e],f,g,i,j]):=by
 walk_at "evh"
def zqy{a:PySem.Addr}{T p g:D}{c n d t b w h i f e:Int}{j:Option B}(l:Bn w f=true)(m:Bn (w*f) c=true)(o:Bn w n=true)(q:zbm d=true)(r:Bn (w*n) e=true)(s:c.fdiv d=e):
  exs Γ yhd [~~~T,~~~.int c,~~~.obj a [p,.tup [.int h,.int i,.int f],.tup [.int n,.int d],g],~~~.int t,~~~.int b,~~~.int w,j] =
   some (.nx [~~~T,~~~.int c,~~~.obj a [p,.tup [.int h,.int i,.int f],.tup [.int n,.int d],g],~~~.int (t-w*f*c),~~~.int (b-w*n*e),~~~.int w,j]):=by
 walk_at "evh"
def o4(a:PySem.Addr)(p:D)(e f g n d:Int)(h:D):D:=.obj a [p,.tup [.int e,.int f,.int g],.tup [.int n,.int d],h]
def yin{a0 a1 a2:PySem.Addr}{p0 p1 p2 cl0 cl1 cl2:D}{s0 t0 u0 s1 t1 u1 s2 t2 u2 n0 n1 n2 d0 d1 d2 w0 w1 w2 c e0 e1 e2:Int}
 (j:Γ 93 [.tup [o4 a0 p0 s0 t0 u0 n0 d0 cl0,o4 a1 p1 s1 t1 u1 n1 d1 cl1,o4 a2 p2 s2 t2 u2 n2 d2 cl2]]=some (.new [.int w0,.int w1,.int w2]))
 (l:Bn 1 d0=true)(m:Bn (1*d0) d1=true)(n:Bn (1*d0*d1) d2=true)(o:1*d0*d1*d2=c)
 (p:Bn w0 u0=true)(q:Bn (w0*u0) c=true)(r:Bn w0 n0=true)(s:zbm d0=true)(t:Bn (w0*n0) e0=true)(u:c.fdiv d0=e0)
 (v:Bn w1 u1=true)(w:Bn (w1*u1) c=true)(z:Bn w1 n1=true)(A:zbm d1=true)(B:Bn (w1*n1) e1=true)(C:c.fdiv d1=e1)
 (E:Bn w2 u2=true)(F:Bn (w2*u2) c=true)(G:Bn w2 n2=true)(H:zbm d2=true)(I:Bn (w2*n2) e2=true)(J:c.fdiv d2=e2):
  exs Γ o_set_closing.1 [~~~.tup [o4 a0 p0 s0 t0 u0 n0 d0 cl0,o4 a1 p1 s1 t1 u1 n1 d1 cl1,o4 a2 p2 s2 t2 u2 n2 d2 cl2],none,none,none,none,none,none] =
   some (.nx [~~~.tup [o4 a0 p0 s0 t0 u0 n0 d0 cl0,o4 a1 p1 s1 t1 u1 n1 d1 cl1,o4 a2 p2 s2 t2 u2 n2 d2 cl2],~~~.int c,~~~o4 a2 p2 s2 t2 u2 n2 d2 cl2,~~~.int (0-w0*u0*c-w1*u1*c-w2*u2*c),
    ~~~.int (0-w0*n0*e0-w1*n1*e1-w2*n2*e2),~~~.int w2,~~~o4 a1 p1 s1 t1 u1 n1 d1 cl1]):=by
 have O:∃x,o4 a0 p0 s0 t0 u0 n0 d0 cl0=x/\x=o4 a0 p0 s0 t0 u0 n0 d0 cl0:=⟨_,rfl,rfl⟩;obtain⟨f,K,h⟩:=O
 have P:∃x,o4 a1 p1 s1 t1 u1 n1 d1 cl1=x/\x=o4 a1 p1 s1 t1 u1 n1 d1 cl1:=⟨_,rfl,rfl⟩;obtain⟨e,L,g⟩:=P
 have Q:∃x,o4 a2 p2 s2 t2 u2 n2 d2 cl2=x/\x=o4 a2 p2 s2 t2 u2 n2 d2 cl2:=⟨_,rfl,rfl⟩;obtain⟨d,M,i⟩:=Q
 rw[K,L,M] at j |-;have T:forN (Bv (.name 2)) (exs Γ yhe) [f,e,d] [~~~.tup [f,e,d],~~~.int 1,none,none,none,none,none]=some (.nx [~~~.tup [f,e,d],~~~.int c,~~~d,none,none,none,none]):=by
  rw[h,g,i,<-o];rw[zbs rfl (zqz l),zbs rfl (zqz m),zbs rfl (zqz n)];rfl
 have R:forN (Bv (.tup [5,2])) (exs Γ yhd) [.tup [.int w0,f],.tup [.int w1,e],.tup [.int w2,d]] [~~~.tup [f,e,d],~~~.int c,~~~d,~~~.int 0,~~~.int 0,none,none] =
   some (.nx [~~~.tup [f,e,d],~~~.int c,~~~d,~~~.int (0-w0*u0*c-w1*u1*c-w2*u2*c),~~~.int (0-w0*n0*e0-w1*n1*e1-w2*n2*e2),~~~.int w2,none]):=by
  rw[h,g,i];rw[zbs rfl (zqy p q r s t u),zbs rfl (zqy v w z A B C),zbs rfl (zqy E F G H I J)];rfl
 have U:zipD [.int w0,.int w1,.int w2] [f,e,d]=[.tup [.int w0,f],.tup [.int w1,e],.tup [.int w2,d]]:=rfl;have V:lf e=false:=by rw[g];rfl
 have W:frz [~~~.tup [f,e,d],~~~.int c,~~~d,~~~.int 0,~~~.int 0,none,none]=[~~~.tup [f,e,d],~~~.int c,~~~d,~~~.int 0,~~~.int 0,none,none]:=rfl;unfold o_set_closing;dsimp only;generalize (0-w0*u0*c-w1*u1*c-w2*u2*c)=TT at *;generalize (0-w0*n0*e0-w1*n1*e1-w2*n2*e2)=N at *;have S:frz [~~~.tup [f,e,d],~~~.int c,~~~d,~~~.int TT,~~~.int N,~~~.int w2,none]=[~~~.tup [f,e,d],~~~.int c,~~~d,~~~.int TT,~~~.int N,~~~.int w2,none]:=rfl;clear K h L g M i l m n o p q r s t u v w z A B C E F G H I J;walk_at "evh"
def yim{f g i j l:Option B}{t b:Int}:ev Γ o_set_closing.2.1 (view [f,g,i,~~~.int t,~~~.int b,j,l])=some (.val (clD (if 0<b then some (t,b) else none))):=by
 unfold o_set_closing;dsimp only;by_cases h:0<b
 ·have e:decide (0<b)=true:=decide_eq_true h;have d:clD (if 0<b then some (t,b) else none)=.tup [.int t,.int b]:=by rw[if_pos h];rfl
  rw[d];walk_at "evh"
 ·have e:decide (0<b)=false:=decide_eq_false h;have d:clD (if 0<b then some (t,b) else none)=.non:=by rw[if_neg h];rfl
  rw[d];walk_at "evh"
end
open Sf
section
variable{Γ:Nat->∅}
abbrev ztf:Ss:=#v[.asg 2 (.call 0 #v[.var 2,.var 3])]
def zps{T:D}{L:List D}{g w r:Int}{d:Option B}(h:Γ 0 [.int g,.int w]=some (.val (.int r))):
  exs Γ ztf [~~~T,some (.ow L),~~~.int g,~~~.int w,d]=some (.nx [~~~T,some (.ow L),~~~.int r,~~~.int w,d]):=by
 walk_at "evh"
def zlg{T:D}{L:List D}{g w r:Int}{d:Option B}(h:Γ 0 [.int g,.int w]=some (.val (.int r))):
  exs Γ ztf [~~~T,~~~.lst L,~~~.int g,~~~.int w,d]=some (.nx [~~~T,~~~.lst L,~~~.int r,~~~.int w,d]):=by
 walk_at "evh"
def zgb:∅:=run (tab [(0,Bs),(93,zac)]) zbn 5
def ok_shares_of(g:Γ 0=Bs)(f:Γ 93=zac):∀d w,d.length=1->zgb d=some w->run Γ zbn 5 d=some w:=λd w _ h=>zbx [(0,Bs),(93,zac)] (λp e=>by
 simp only[Zg,Zn,or_false] at e;rcases e with rfl|rfl<;>assumption) vA d w h
def ztz{h i j:D}{e f d l m g:Int}{R S:List D}(o:Γ 93 [.tup [h,i,j]]=some (.new [.int e,.int f,.int d]))(n:Γ 0 [.int 0,.int e]=some (.val (.int l)))(d1:Γ 0 [.int l,.int f]=some (.val (.int m)))(d2:Γ 0 [.int m,.int d]=some (.val (.int g)))
 (q:∀x y,ev Γ (.comp (.tup #v[.fld (.var 1) 0,.bin .fdiv (.var 2) (.var 3)]) (.tup [1,2]) (.zip (.var 0) (.var 1)) 3 [2] (.som (.cmp .ne (.var 2) (.int 0)))) [some (.tup [h,i,j]),some (.lst [.int e,.int f,.int d]),some (.int g),x,y]=some (.new R))(r:lfL R=true)(s:srtW [.lst R]=some (.new S)):
  run Γ zbn 5 [.tup [h,i,j]]=some (.new S):=by
 have t:forN (Bv (.name 3)) (exs Γ ztf) [.int e,.int f,.int d] [~~~.tup [h,i,j],some (.ow [.int e,.int f,.int d]),~~~.int 0,none,none]=some (.nx [~~~.tup [h,i,j],some (.ow [.int e,.int f,.int d]),~~~.int g,~~~.int d,none]):=by
  rw[zbs rfl (zps n),zbs rfl (zps d1),zbs rfl (zps d2)];rfl
 have p:forN (Bv (.name 3)) (exs Γ ztf) [.int e,.int f,.int d] [~~~.tup [h,i,j],~~~.lst [.int e,.int f,.int d],~~~.int 0,none,none]=some (.nx [~~~.tup [h,i,j],~~~.lst [.int e,.int f,.int d],~~~.int g,~~~.int d,none]):=by
  rw[zbs rfl (zlg n),zbs rfl (zlg d1),zbs rfl (zlg d2)];rfl
 unfold zbn;have u:frz [~~~.tup [h,i,j],some (.ow [.int e,.int f,.int d]),~~~.int 0,none,none]=[~~~.tup [h,i,j],~~~.lst [.int e,.int f,.int d],~~~.int 0,none,none]:=rfl;walk_at "evh"
def pr1(p w g:Int):List D:=if w=0 then [] else [.tup [.int p,.int (w.fdiv g)]]
def zlh{a:PySem.Addr}{p w g:Int}{s l d T L:D}{x y:Option D}(f:zbm g=true):
  zwh Γ (.tup #v[.fld (.var 1) 0,.bin .fdiv (.var 2) (.var 3)]) (.tup [1,2]) 3 [2] (.som (.cmp .ne (.var 2) (.int 0))) [some T,some L,some (.int g),x,y] (.tup [.obj a [.int p,s,l,d],.int w])=some (if w=0 then none else some (.tup [.int p,.int (w.fdiv g)])):=by
 by_cases h:w=0
 ·have e:decide (w=0)=true:=decide_eq_true h;rw[if_pos h];walk_at "evh"
 ·have e:decide (w=0)=false:=decide_eq_false h;rw[if_neg h];walk_at "evh"
def zmm{f:D->Option (Option D)}{d:D}{l r:List D}{p w g:Int}(h:f d=some (if w=0 then none else some (.tup [.int p,.int (w.fdiv g)])))(e:zcg f l=some r):zcg f (d::l)=some (pr1 p w g++r):=by
 unfold pr1;by_cases z:w=0
 ·rw[if_pos z] at h;conv=>lhs;unfold zcg
  rw[h,if_pos z];exact e
 ·rw[if_neg z] at h;conv=>lhs;unfold zcg
  rw[h,if_neg z];simp only
  rw[e];rfl
def yik{m n o:PySem.Addr}{d f h i j l g:Int}{p q r s l1 t u l2 v:D}(w:zbm g=true)(x y:Option D):
  ev Γ (.comp (.tup #v[.fld (.var 1) 0,.bin .fdiv (.var 2) (.var 3)]) (.tup [1,2]) (.zip (.var 0) (.var 1)) 3 [2] (.som (.cmp .ne (.var 2) (.int 0))))
   [some (.tup [.obj m [.int d,p,q,r],.obj n [.int f,s,l1,t],.obj o [.int h,u,l2,v]]),some (.lst [.int i,.int j,.int l]),some (.int g),x,y]=some (.new (pr1 d i g++(pr1 f j g++(pr1 h l g++[])))):=by
 rw[zqu];have e:evW Γ (.zip (.var 0) (.var 1)) [some (.tup [.obj m [.int d,p,q,r],.obj n [.int f,s,l1,t],.obj o [.int h,u,l2,v]]),some (.lst [.int i,.int j,.int l]),some (.int g),x,y] =
   some [.tup [.obj m [.int d,p,q,r],.int i],.tup [.obj n [.int f,s,l1,t],.int j],.tup [.obj o [.int h,u,l2,v],.int l]]:=by
  have z:zipD [.obj m [.int d,p,q,r],.obj n [.int f,s,l1,t],.obj o [.int h,u,l2,v]] [.int i,.int j,.int l]=[.tup [.obj m [.int d,p,q,r],.int i],.tup [.obj n [.int f,s,l1,t],.int j],.tup [.obj o [.int h,u,l2,v],.int l]]:=rfl;walk_at "evh"
 rw[e,Ya,if_pos ⟨by rw[Jb];simp only[Zq,Kx];decide,by rfl⟩];rw[zmm (zlh w) (zmm (zlh w) (zmm (zlh w) rfl))];rfl
def kk1(p w g:Int):List (List Int):=if w=0 then [] else [[p,w.fdiv g]]
def shK(d e f h i j g:Int):List (List Int):=kk1 d h g++(kk1 e i g++(kk1 f j g++[]))
def zqn{p w g:Int}{l:List D}{d:List (List Int)}(h:zmc l=some d):zmc (pr1 p w g++l)=some (kk1 p w g++d):=by
 unfold pr1 kk1;by_cases z:w=0
 ·rw[if_pos z,if_pos z];exact h
 ·rw[if_neg z,if_neg z];show((keyD (.tup [.int p,.int (w.fdiv g)])).bind λk=>(zmc l).map λd=>k::d)=_;rw[h];rfl
def yks{p w g:Int}{l:List D}(h:lfL l=true):lfL (pr1 p w g++l)=true:=by
 unfold pr1;by_cases z:w=0
 ·rw[if_pos z];exact h
 ·rw[if_neg z];show(lf (.tup [.int p,.int (w.fdiv g)]) && lfL l)=true;rw[h];rfl
def shK_nd{d e f w0 w1 w2 g:Int}(h:d≠e)(i:d≠f)(j:e≠f):(shK d e f w0 w1 w2 g).Nodup/\(shK d e f w0 w1 w2 g).length<=3:=by
 unfold shK kk1;by_cases l:w0=0<;>by_cases m:w1=0<;>by_cases n:w2=0<;>simp[l,m,n,h,i,j]
def zua{a0 a1 a2:PySem.Addr}{h i j:Int}{d e f:H3}{x0 x1 x2:Rat}{c0 c1 c2:D}(s:HB 3000 d)(t:HB 3000 e)(u:HB 3000 f)(m:h≠i)(n:h≠j)(o:i≠j)
 (v:zbm (gc (gc (gc 0 (crI e f)) (crI f d)) (crI d e))=true):
  zgb [.tup [bD a0 h d x0 c0,bD a1 i e x1 c1,bD a2 j f x2 c2]]=some (.new ((ssK (shK h i j (crI e f) (crI f d) (crI d e) (gc (gc (gc 0 (crI e f)) (crI f d)) (crI d e)))).map dK)):=by
 unfold zgb;generalize l:tab [(0,Bs),(93,zac)]=Γ;have p:Γ 0=Bs:=by rw[<-l];rfl
 have q:Γ 93=zac:=by rw[<-l];rfl
 have w:=zeh (a0:=a0) (a1:=a1) (a2:=a2) (p0:=h) (p1:=i) (p2:=j) (x0:=x0) (x1:=x1) (x2:=x2) (c0:=c0) (c1:=c1) (c2:=c2) s t u;refine ztz (by rw[q];exact w) (by rw[p];exact zat) (by rw[p];exact zat) (by rw[p];exact zat) (λx y=>yik v x y) (yks (yks (yks rfl))) ?_;obtain⟨z,A⟩:=shK_nd (w0:=crI e f) (w1:=crI f d) (w2:=crI d e) (g:=gc (gc (gc 0 (crI e f)) (crI f d)) (crI d e)) m n o
 generalize (gc (gc (gc 0 (crI e f)) (crI f d)) (crI d e))=g at *;show((zmc (pr1 h (crI e f) g++(pr1 i (crI f d) g++(pr1 j (crI d e) g++[])))).bind λr=>if r.length<=63/\r.Nodup then some (W.new ((ssK r).map dK)) else none)=_;rw[zqn (zqn (zqn rfl)),Ya];exact if_pos ⟨by show(shK _ _ _ _ _ _ _).length<=63;omega,z⟩
end
open Mg Fi
def wy(h:H3):V:=((h.2.1:Rat),-(h.1:Rat))
def zet{h k:H3}:xr (wy h) (wy k)=((crI h k:Int):Rat):=by
 unfold xr wy crI;rw[Qt,Zy,Zy];grind
def zkl{h:H3}{v:V}:xr (wy h) v=(h.1:Rat)*v.1+(h.2.1:Rat)*v.2:=by unfold xr wy;grind
def top3(d e f:H3)(g d1 d2:Int):Int:=0-crI e f*d.2.2*(1*g*d1*d2)-crI f d*e.2.2*(1*g*d1*d2)-crI d e*f.2.2*(1*g*d1*d2)
def bot3(d e f:H3)(h n1 n2 g d1 d2:Int):Int:=0-crI e f*h*(d1*d2)-crI f d*n1*(g*d2)-crI d e*n2*(g*d1)
def clo3(g h i:H3)(d e f:Rat):Option (Int×Int):=
 if 0<bot3 g h i d.num e.num f.num d.den e.den f.den then some (top3 g h i d.den e.den f.den,bot3 g h i d.num e.num f.num d.den e.den f.den) else none
def zgl(x:Rat):((x.num:Int):Rat)=x*((x.den:Int):Rat):=by
 have h:((x.den:Int):Rat)≠0:=λz=>x.den_nz (by
  have:=Qk.mp z
  omega)
 have e:x=(x.num:Rat)/((x.den:Int):Rat):=by
  conv=>lhs;rw[<-Vj x,Rat.mkRat_eq_div]
  rw[Gi]
 have d:x*((x.den:Int):Rat)=(x.num:Rat)/((x.den:Int):Rat)*((x.den:Int):Rat):=by
  conv=>lhs;lhs;rw[e]
 rw[d,Gu h]
def zdh(x:Rat):(0:Rat)<((x.den:Int):Rat):=by
 rw[show(0:Rat)=((0:Int):Rat) from rfl,Z9];exact Va.mpr x.den_pos
def yhx{d e f:H3}{g d1 d2:Int}:((top3 d e f g d1 d2:Int):Rat)=((g:Rat)*d1*d2)*(- gg (wy d) (wy e) (wy f) (d.2.2:Rat) (e.2.2:Rat) (f.2.2:Rat)):=by
 unfold top3 gg;rw[zet,zet,zet];simp only[Qt,Zy];rw[show((0:Int):Rat)=0 from rfl,show((1:Int):Rat)=1 from rfl];grind
def zzw{h0 h1 h2:H3}{x0 x1 x2:Rat}:((bot3 h0 h1 h2 x0.num x1.num x2.num x0.den x1.den x2.den:Int):Rat)=(((x0.den:Int):Rat)*((x1.den:Int):Rat)*((x2.den:Int):Rat))*(- gg (wy h0) (wy h1) (wy h2) x0 x1 x2):=by
 unfold bot3 gg;rw[zet,zet,zet];simp only[Qt,Zy];rw[show((0:Int):Rat)=0 from rfl,zgl x0,zgl x1,zgl x2];grind
def ztd{i j l:H3}{d f g:Rat}(h:0 < - gg (wy i) (wy j) (wy l) d f g):∃p,clo3 i j l d f g=some p:=by
 have e:=zzw (h0:=i) (h1:=j) (h2:=l) (x0:=d) (x1:=f) (x2:=g);have c:=Z6 (Z6 (zdh d) (zdh f)) (zdh g);have:0<bot3 i j l d.num f.num g.num d.den f.den g.den:=by
  rw[<-Z9,e];exact Z6 c h
 unfold clo3;rw[if_pos this];exact⟨_,rfl⟩
def zfn{i j l:H3}{d f g:Rat}{p:Int×Int}(h:clo3 i j l d f g=some p):0<p.2/\0 < - gg (wy i) (wy j) (wy l) d f g /\
  (p.1:Rat)*(- gg (wy i) (wy j) (wy l) d f g)=(p.2:Rat)*(- gg (wy i) (wy j) (wy l) (i.2.2:Rat) (j.2.2:Rat) (l.2.2:Rat)):=by
 unfold clo3 at h;split at h
 ·next z=>
  cases h;have e:=zzw (h0:=i) (h1:=j) (h2:=l) (x0:=d) (x1:=f) (x2:=g);have c:=Z6 (Z6 (zdh d) (zdh f)) (zdh g);refine⟨z,?_,?_⟩
  ·have m:(0:Rat)<((bot3 i j l d.num f.num g.num d.den f.den g.den:Int):Rat):=by
    rw[show(0:Rat)=((0:Int):Rat) from rfl,Z9];exact z
   rw[e] at m;generalize ((d.den:Int):Rat)*((f.den:Int):Rat)*((g.den:Int):Rat)=A at *;generalize-gg (wy i) (wy j) (wy l) d f g=B at *
   by_cases q:0<B
   ·exact q
   ·have:=Z4 (Ye c) (show 0 <= -B by grind)
    grind
  ·show((top3 i j l d.den f.den g.den:Int):Rat)*_=((bot3 i j l d.num f.num g.num d.den f.den g.den:Int):Rat)*_;rw[e,yhx];grind
 ·cases h
def clJ(h:Nat->H3)(x:Nat->Rat)(n:Nat)(J:Nat->Nat)(i:Nat):Option (Int×Int):=clo3 (h (J (pv n i))) (h (J i)) (h (J (nx n i))) (x (J (pv n i))) (x (J i)) (x (J (nx n i)))
def ear(d:Nat->Option (Int×Int)):Nat->Option Nat
 |0=>none
 |k+1=>match d k with
  |none=>ear d k
  |some q=>match ear d k with
   |none=>some k
   |some i=>match d i with
    |none=>some i
    |some p=>some (if q.1*p.2<p.1*q.2 then k else i)
def yaf{d:Nat->Option (Int×Int)}{k:Nat}{f:Option Nat}(h:Best d k f)(q:d k=none):Best d (k+1) f:=by
 cases f with
 |none=>
  intro i n;rcases Yf i k with c|c
  ·exact h i c
  ·have:i=k:=by omega
   subst this;exact q
 |some i=>
  obtain⟨o,g,l,m⟩:=h
  refine⟨by omega,g,l,λj r p e=>?_⟩
  rcases Yf j k with c|c
  ·exact m j r c e
  ·have:j=k:=by omega
   subst this;rw[q] at e;cases e
def zvc{f:Nat->Option (Int×Int)}{k:Nat}{q:Int×Int}(h:Best f k none)(e:f k=some q):Best f (k+1) (some k):=
 ⟨Wj _,q,e,λi r g d=>by
  rcases Yf i k with c|c
  ·rw[h i c] at d;cases d
  ·have:i=k:=by omega
   subst this;rw[e] at d;cases d;exact Gn _⟩
theorem zmt{d:Nat->Option (Int×Int)}(g:∀i q,d i=some q->0<q.2):∀k,Best d k (ear d k)
 |0=>λi l=>by omega
 |k+1=>by
  have f:=zmt g k;unfold ear;cases e:d k with
  |none=>exact yaf f e
  |some q=>
   simp only
   cases h:ear d k with
   |none=>rw[h] at f;exact zvc f e
   |some i=>
    rw[h] at f;obtain⟨p,j⟩:∃p,d i=some p:=by obtain⟨_,p,z,_⟩:=f;exact⟨p,z⟩
    simp only[j];exact yae g f j e
def fac(p:Int×Int):Rat:=(p.1:Rat)*(p.2:Rat)⁻¹
def zyw{p:Int×Int}(h:0<p.2):fac p*(p.2:Rat)=(p.1:Rat):=by
 have:(p.2:Rat)≠0:=λz=>by
  have:=Qk.mp z
  omega
 unfold fac;rw[Kw,V0 _ (p.2:Rat),W3 _ this];grind
section
variable{h:Nat->H3}{x:Nat->Rat}{N:Nat}
structure Lst(h:Nat->H3)(x:Nat->Rat)(N:Nat)(n:Nat)(J:Nat->Nat)(t:Rat):Prop where
 ok:Ok (λi=>wy (h (J i))) (λi=>((h (J i)).2.2:Rat)) (λi=>x (J i)) n t
 mono:∀i k,i<k->k<n->J i<J k
 lt:∀i,i<n->J i<N
 span:Span (λi=>wy (h (J i))) n
 off:Off (λi=>wy (h (J i))) (λi=>((h (J i)).2.2:Rat)) n
 back:∀s y,t<=s->(∀i,i<n->((h (J i)).2.2:Rat)-s*x (J i)<=xr (wy (h (J i))) y)->∀j,j<N->((h j).2.2:Rat)-s*x j<=xr (wy (h j)) y
structure Nxt(h:Nat->H3)(x:Nat->Rat)(N n:Nat)(J:Nat->Nat)(t:Rat)(k:Nat)(p:Int×Int):Prop where
 ear:ear (clJ h x n J) n=some k
 lt:k<n
 cl:clJ h x n J k=some p
 pos:0<p.2
 bot:0<tp (λi=>wy (h (J i))) (λi=>x (J i)) n k
 top:fac p*tp (λi=>wy (h (J i))) (λi=>x (J i)) n k=tp (λi=>wy (h (J i))) (λi=>((h (J i)).2.2:Rat)) n k
 le:t<=fac p
 ok:Ok (λi=>wy (h (J i))) (λi=>((h (J i)).2.2:Rat)) (λi=>x (J i)) n (fac p)
 nul:gi (λi=>wy (h (J i))) (λi=>((h (J i)).2.2:Rat)) (λi=>x (J i)) n (fac p) k=0
def Lst.next{n:Nat}{J:Nat->Nat}{t:Rat}(L:Lst h x N n J t){v u:V}(M:v≠u)(O:∀j,j<N->x j<=xr (wy (h j)) v)(P:∀j,j<N->x j<=xr (wy (h j)) u):∃k p,Nxt h x N n J t k p:=by
 obtain⟨w,l,Q⟩:=L.ok.some L.span M (λi d=>O _ (L.lt i d)) (λi d=>P _ (L.lt i d))
 have R:∀i q,clJ h x n J i=some q->0<q.2:=λi q e=>(zfn e).1
 have B:=zmt R n;obtain⟨S,f⟩:=ztd Q
 have f:clJ h x n J w=some S:=f;cases e:ear (clJ h x n J) n with
 |none=>rw[e] at B;rw[B w l] at f;cases f
 |some k=>
  rw[e] at B;obtain⟨z,p,D,mn⟩:=B
  obtain⟨o,E,r⟩:=zfn D
  have F:=zyw o;have T:(0:Rat)<(p.2:Rat):=by rw[show(0:Rat)=((0:Int):Rat) from rfl,Z9];exact o
  have G:fac p*tp (λi=>wy (h (J i))) (λi=>x (J i)) n k=tp (λi=>wy (h (J i))) (λi=>((h (J i)).2.2:Rat)) n k:=by
   have r:(p.1:Rat)*tp (λi=>wy (h (J i))) (λi=>x (J i)) n k=(p.2:Rat)*tp (λi=>wy (h (J i))) (λi=>((h (J i)).2.2:Rat)) n k:=r;generalize tp (λi=>wy (h (J i))) (λi=>x (J i)) n k=A at *;generalize tp (λi=>wy (h (J i))) (λi=>((h (J i)).2.2:Rat)) n k=C at *;rw[<-F] at r;have:(p.2:Rat)*(fac p*A-C)=0:=by grind
   have:=(Kf.mp this).resolve_left (by grind)
   grind
  obtain⟨U,W,X⟩:=L.ok.until z E G (λi d H=>by
   obtain⟨q,g⟩:=ztd H
   have g:clJ h x n J i=some q:=g;have m:=mn i q d g;obtain⟨I,r2,K⟩:=zfn g
   have fq:=zyw I;have Y:(0:Rat)<(q.2:Rat):=by rw[show(0:Rat)=((0:Int):Rat) from rfl,Z9];exact I
   have K:(q.1:Rat)*tp (λi=>wy (h (J i))) (λi=>x (J i)) n i=(q.2:Rat)*tp (λi=>wy (h (J i))) (λi=>((h (J i)).2.2:Rat)) n i:=K;have Z:(p.1:Rat)*(q.2:Rat)<=(q.1:Rat)*(p.2:Rat):=by
    rw[<-Zy,<-Zy,Vs];exact m
   have s:0<tp (λi=>wy (h (J i))) (λi=>x (J i)) n i:=H;generalize tp (λi=>wy (h (J i))) (λi=>x (J i)) n i=A at *;generalize tp (λi=>wy (h (J i))) (λi=>((h (J i)).2.2:Rat)) n i=C at *;rw[<-F] at Z;have a1:0<=(q.1:Rat)-fac p*(q.2:Rat):=zbe T (by grind);have a2:=Z4 a1 (Ye s);have a3:0<=(C-fac p*A)*(q.2:Rat):=by grind
   have:=zbe Y a3
   grind)
  exact⟨k,p,e,z,D,o,E,G,U,⟨L.ok.three,L.ok.srt,L.ok.bend,W⟩,X⟩
theorem Nxt.drop{n:Nat}{J:Nat->Nat}{t:Rat}{k:Nat}{p:Int×Int}(X:Nxt h x N n J t k p)(L:Lst h x N n J t)(g:crI (h (J (nx n k))) (h (J (pv n k)))<0):Lst h x N (n-1) (λi=>J (er k i)) (fac p)/\4<=n:=by
 have d:xr (wy (h (J (nx n k)))) (wy (h (J (pv n k))))<0:=by
  rw[zet,show(0:Rat)=((0:Int):Rat) from rfl,Z9];exact g
 obtain⟨l,m⟩:=L.ok.drop X.lt X.ok.lens X.nul d
 refine⟨⟨l,λi j e o=>L.mono _ _ (zyy e) (zen X.lt o),λi q=>L.lt _ (zen X.lt q),L.span.drop L.ok X.lt d,L.off.drop X.lt,λs y f r=>?_⟩,m⟩
 refine L.back s y (K6 X.le f) ?_;exact L.ok.back X.lt X.bot X.top f d r
def finJ(h:Nat->H3)(x:Nat->Rat):Nat->Nat->(Nat->Nat)->Nat×(Nat->Nat)×Nat
 |0,n,J=>(n,J,0)
 |m+1,n,J=>let k:=(ear (clJ h x n J) n).getD 0
  if 0<=crI (h (J (nx n k))) (h (J (pv n k))) then(n,J,k) else finJ h x m (n-1) λi=>J (er k i)
structure FinS(h:Nat->H3)(x:Nat->Rat)(N n:Nat)(J:Nat->Nat)(k:Nat)(p:Int×Int):Prop where
 lt:k<n
 mono:∀i k,i<k->k<n->J i<J k
 le:∀i,i<n->J i<N
 three:3<=n
 cl:clJ h x n J k=some p
 bot:0<p.2
 fac:0<fac p
 keep:∀j,j<N->((h j).2.2:Rat)-DL.fac p*x j<=xr (wy (h j)) (mt (wy (h (J (pv n k)))) (wy (h (J k))) (((h (J (pv n k))).2.2:Rat)-DL.fac p*x (J (pv n k))) (((h (J k)).2.2:Rat)-DL.fac p*x (J k)))
 w0:0<crI (h (J k)) (h (J (nx n k)))
 w1:0<=crI (h (J (nx n k))) (h (J (pv n k)))
 w2:0<crI (h (J (pv n k))) (h (J k))
 sum:((crI (h (J k)) (h (J (nx n k))):Int):Rat)*(((h (J (pv n k))).2.2:Rat)-DL.fac p*x (J (pv n k)))+((crI (h (J (nx n k))) (h (J (pv n k))):Int):Rat)*(((h (J k)).2.2:Rat)-DL.fac p*x (J k))+((crI (h (J (pv n k))) (h (J k)):Int):Rat)*(((h (J (nx n k))).2.2:Rat)-DL.fac p*x (J (nx n k)))=0
def Nxt.finS{n:Nat}{J:Nat->Nat}{t:Rat}{k:Nat}{p:Int×Int}(X:Nxt h x N n J t k p)(L:Lst h x N n J t)(f:0<=crI (h (J (nx n k))) (h (J (pv n k)))):FinS h x N n J k p:=by
 have d:0<=xr (wy (h (J (nx n k)))) (wy (h (J (pv n k)))):=by
  rw[zet,show(0:Rat)=((0:Int):Rat) from rfl,Vs];exact f
 have pos:∀{a b:H3},0<xr (wy a) (wy b)->0<crI a b:=λ{a b} z=>by
  rw[zet,show(0:Rat)=((0:Int):Rat) from rfl,Z9] at z;exact z
 have j:=L.off.pos X.ok X.lt d;refine⟨X.lt,L.mono,L.lt,L.ok.three,X.cl,X.pos,?_,?_,pos (L.ok.bend k X.lt),f,pos (L.ok.bendp X.lt),?_⟩
 ·have e:=X.top;have b:=X.bot;generalize tp (λi=>wy (h (J i))) (λi=>x (J i)) n k=A at *;generalize tp (λi=>wy (h (J i))) (λi=>((h (J i)).2.2:Rat)) n k=C at *;by_cases z:0<DL.fac p
  ·exact z
  ·have:=Z4 (show 0 <= - DL.fac p by grind) (Ye b)
   grind
 ·exact L.back (DL.fac p) _ X.le (λi g=>X.ok.keeps k i X.lt g)
 ·have z:=X.nul;unfold gi gg ee at z;rw[zet,zet,zet] at z;exact z
theorem zyv{v e:V}(f:v≠e)(g:∀j,j<N->x j<=xr (wy (h j)) v)(i:∀j,j<N->x j<=xr (wy (h j)) e):∀(m n:Nat) (J:Nat->Nat) (t:Rat),n<=m->Lst h x N n J t->∃p,FinS h x N (finJ h x m n J).1 (finJ h x m n J).2.1 (finJ h x m n J).2.2 p
 |0,n,J,t,l,L=>by have:=L.ok.three;omega
 |m+1,n,J,t,l,L=>by
  obtain⟨k,p,X⟩:=L.next f g i
  unfold finJ;simp only[X.ear,Je];by_cases d:0<=crI (h (J (nx n k))) (h (J (pv n k)))
  ·rw[if_pos d];exact⟨p,X.finS L d⟩
  ·rw[if_neg d];obtain⟨L2,o⟩:=X.drop L vB
   exact zyv f g i m (n-1) _ _ vB L2
end
open Mg Fi Sf
def hS(l:List V)(i:Nat):H3:=zdf (rnd l i) (rnd l (i+1))
def zfw(l:List V):(zbj l).length=l.length:=by unfold zbj;rw[Zd,zdi]
def zfx{l:List V}{i:Nat}(d:i<l.length):(zbj l)[i]? = some (hS l i):=by
 have e:=congrArg (λz=>z[0]?) (yig d);simp only[Ud,Nat.add_zero,Qi] at e;exact e
def znk(l:List V):zbj l=(List.range l.length).map (hS l):=by
 apply Qc
 intro i;rw[Zi];by_cases d:i<l.length
 ·rw[zfx d,Ky d];rfl
 ·rw[Yp (by rw[zfw];omega),Yp (by rw[Z8];omega)];rfl
def lwS(r:List V)(h:H3):Rat:=0-mx (-h.1) (-h.2.1) (lv (-h.1) (-h.2.1) (r.headD (0,0))) r.tail
def zoi{h:H3}{q:V}:lv (-h.1) (-h.2.1) q = - xr (wy h) q:=by
 unfold lv;rw[zkl,Rat.intCast_neg,Rat.intCast_neg];grind
def zjb{r:List V}(f:0<r.length)(h:H3):(∀q∈r,lwS r h<=xr (wy h) q)/\∃q∈r,lwS r h=xr (wy h) q:=by
 cases r with
 |nil=>exact absurd f (Wm 0)
 |cons q r=>
  unfold lwS;simp only[List.headD_cons,List.tail_cons];obtain⟨g,i,j⟩:=mx_ok (-h.1) (-h.2.1) r (lv (-h.1) (-h.2.1) q)
  refine⟨λz d=>?_,?_⟩
  ·rcases Zg.mp d with e|e
   ·rw[e];rw[zoi] at g;rw[zoi];grind
   ·have:=i z e;rw[zoi] at this;grind
  ·rcases j with e|⟨z,d,e⟩
   ·exact⟨q,.head _,by rw[e,zoi];grind⟩
   ·exact⟨z,.tail _ d,by rw[e,zoi];grind⟩
def zmf{l:List V}(h:IsShp l)(i:Nat):∃k:Rat,0<k/\wy (hS l i)=sm k (ed (rnd l) i)/\(((hS l i).2.2:Int):Rat)=xr (wy (hS l i)) (rnd l i):=by
 have f:=h.three;have j:=znt (nodup h) vB i;obtain⟨k,m,d,e,g⟩:=(zya (a:=(rnd l i).2-(rnd l (i+1)).2) (b:=(rnd l (i+1)).1-(rnd l i).1) (c:=((rnd l i).2-(rnd l (i+1)).2)*(rnd l i).1+((rnd l (i+1)).1-(rnd l i).1)*(rnd l i).2) (zlv j)).scale
 have d:(((hS l i).1:Int):Rat)=_:=d;have e:(((hS l i).2.1:Int):Rat)=_:=e;have g:(((hS l i).2.2:Int):Rat)=_:=g;refine⟨k,m,?_,?_⟩
 ·unfold wy sm ed mn;rw[d,e];exact Wx (by dsimp only) (by dsimp only;grind)
 ·rw[zkl,d,e,g];grind
def zwo{l:List V}(d:IsShp l):Sds (λi=>wy (hS l i)) (rnd l) (λi=>((hS l i).2.2:Rat)) l.length:=
 ⟨yjj d (nodup d),λi _=>by obtain⟨k,f,e,_⟩:=zmf d i;exact⟨k,f,e⟩,λi _=>by obtain⟨k,f,_,e⟩:=zmf d i;exact e⟩
def zxx{l:List V}(d:IsShp l)(x:Nat->Rat):Lst (hS l) x l.length l.length (λi=>i) 0:=
 ⟨(zwo d).ok,λ_ _ h _=>h,λ_ h=>h,(zwo d).span,(zwo d).off,λ_ _ _ h=>h⟩
def ylm{l r:List V}(g:IsShp l)(f:IsShp r):∃p,FinS (hS l) (λi=>lwS r (hS l i)) l.length (finJ (hS l) (λi=>lwS r (hS l i)) l.length l.length λi=>i).1 (finJ (hS l) (λi=>lwS r (hS l i)) l.length l.length λi=>i).2.1 (finJ (hS l) (λi=>lwS r (hS l i)) l.length l.length λi=>i).2.2 p:=by
 have e:=f.three;have d:0<r.length:=by omega
 exact zyv (znt (nodup f) vB 0) (λj _=>(zjb d _).1 _ (zar d _)) (λj _=>(zjb d _).1 _ (zar d _)) _ _ _ _ (Zk _) (zxx g _)
structure Hb(h:H3):Prop where
 a:h.1.natAbs<2^90
 b:h.2.1.natAbs<2^90
 c:h.2.2.natAbs<2^150
def Hb.hb{h:H3}(b:Hb h){n:Nat}(d:150<=n):HB n h:=⟨Zf b.a (Bo vB),Zf b.b (Bo vB),Zf b.c (Bo d)⟩
def zge{t g:Int}{n:Nat}(f:g∣t)(h:t.natAbs<2^n):(t.fdiv g).natAbs<2^n:=by
 obtain⟨x,d⟩:=f
 rcases Gy (g=0) with z|z
 ·rw[z,Int.fdiv_zero];exact Nat.two_pow_pos _
 ·rw[d,Zw _ z];rcases Gy (x=0) with e|e
  ·rw[e];exact Nat.two_pow_pos _
  ·refine Yw ?_ h;exact zaj ⟨g,by rw[d,Kc]⟩ (by rw[d];exact Ym z e)
def Sy.sub{a b c d k:Nat}{x y:Rat}(e:Sy a b x)(f:Sy c d y)(g:a+d<=k)(h:c+b<=k):Sy (k+1) (b+d) (x-y):=by
 rw[Ke];exact e.add f.neg g h
def t3_sy{a b c:Rat}(d:Sy 66 6 a)(e:Sy 66 6 b)(f:Sy 138 18 c):Hb (t3 a b c):=by
 refine⟨?_,?_,?_⟩
 ·show(a.num*((b.den:Int)*(c.den:Int))).natAbs<2^(66+(6+18));rw[Zu,Zu];exact B9 d.t (B9 e.b f.b)
 ·show(b.num*((a.den:Int)*(c.den:Int))).natAbs<2^(66+(6+18));rw[Zu,Zu];exact B9 e.t (B9 d.b f.b)
 ·show(c.num*((a.den:Int)*(b.den:Int))).natAbs<2^(138+(6+6));rw[Zu,Zu];exact B9 f.t (B9 d.b e.b)
def yif{s e:V}(d:Sy 62 3 s.1/\Sy 62 3 s.2)(g:Sy 62 3 e.1/\Sy 62 3 e.2):Hb (zdf s e):=by
 have h:Sy 66 6 (s.2-e.2):=d.2.sub g.2 (k:=65) vA vA;have i:Sy 66 6 (e.1-s.1):=g.1.sub d.1 (k:=65) vA vA;have j:Sy 138 18 ((s.2-e.2)*s.1+(e.1-s.1)*s.2):=(h.mul d.1).add (i.mul d.2) (k:=137) vA vA;have f:=t3_sy h i j;obtain⟨l,m,n⟩:=zsn (t3 (s.2-e.2) (e.1-s.1) ((s.2-e.2)*s.1+(e.1-s.1)*s.2))
 exact⟨zge l f.a,zge m f.b,zge n f.c⟩
def hS_hb{l:List V}(d:0<l.length)(e:SyL 62 3 l)(i:Nat):Hb (hS l i):=yif (e _ (zar d _)) (e _ (zar d _))
def syI{i:Int}{n:Nat}(h:i.natAbs<2^n):Sy n 1 (i:Rat):=⟨by rw[Rat.num_intCast];exact h,by rw[Rat.den_intCast];decide⟩
def xr_sy{h:H3}{q:V}(b:Hb h)(d:Sy 80 12 q.1/\Sy 80 12 q.2):Sy 184 26 (xr (wy h) q):=by
 rw[zkl];exact((syI b.a).mul d.1).add ((syI b.b).mul d.2) (k:=183) vA vA
def lwS_sy{r:List V}{h:H3}(d:0<r.length)(b:Hb h)(f:SyL 80 12 r):Sy 184 26 (lwS r h):=by
 obtain⟨_,q,g,e⟩:=zjb d h
 rw[e];exact xr_sy b (f q g)
def zay{h k:H3}(a:Hb h)(b:Hb k):(crI h k).natAbs<2^181:=by
 unfold crI;have d:(h.1*k.2.1).natAbs<2^180:=by rw[Zu];exact B9 a.a b.b
 have f:(h.2.1*k.1).natAbs<2^180:=by rw[Zu];exact B9 a.b b.a
 have e:(2:Nat)^181=2^180+2^180:=by rw[V3,Nat.mul_two]
 rw[e];generalize (2:Nat)^180=M at *;omega
def zlc{a b c:Int}{n:Nat}(d:a.natAbs<2^n)(f:b.natAbs<2^n)(g:c.natAbs<2^n):(0-a-b-c).natAbs<2^(n+2):=by
 have e:(2:Nat)^(n+2)=2^n*4:=by rw[Nat.pow_add]
 rw[e];generalize (2:Nat)^n=M at *;omega
def zzo{w z A:H3}{r s u:Rat}{p:Int×Int}(f:Hb w)(g:Hb z)(i:Hb A)(l:Sy 184 26 r)(o:Sy 184 26 s)(q:Sy 184 26 u)(h:clo3 w z A r s u=some p):p.1.natAbs<2^420/\p.2.natAbs<2^420:=by
 unfold clo3 at h;split at h
 ·cases h;have d:∀{a b c:Int}{m n k:Nat},a.natAbs<2^m->b.natAbs<2^n->c.natAbs<2^k->(a*b*c).natAbs<2^(m+n+k):=λB C D=>by
   rw[Zu,Zu];exact B9 (B9 B C) D
  have j:∀x:Rat,Sy 184 26 x->((x.den:Int)).natAbs<2^26:=λx v=>v.b
  have c:(1*(r.den:Int)*(s.den:Int)*(u.den:Int)).natAbs<2^78:=by
   rw[Gm];exact d (j _ l) (j _ o) (j _ q)
  have e:∀x y:Rat,Sy 184 26 x->Sy 184 26 y->((x.den:Int)*(y.den:Int)).natAbs<2^52:=λx y v E=>by
   rw[Zu];exact B9 (j _ v) (j _ E)
  refine⟨Zf (zlc (n:=181+150+78) ?_ ?_ ?_) (Bo vA),Zf (zlc (n:=181+184+52) ?_ ?_ ?_) (Bo vA)⟩
  ·exact d (zay g i) f.c c
  ·exact d (zay i f) g.c c
  ·exact d (zay f g) i.c c
  ·exact d (zay g i) l.t (e _ _ o q)
  ·exact d (zay i f) o.t (e _ _ l q)
  ·exact d (zay f g) q.t (e _ _ l o)
 ·cases h
def yem{w z A:H3}{r s u:Rat}{p:Int×Int}(f:Hb w)(g:Hb z)(i:Hb A)(l:Sz 2000 r)(o:Sz 2000 s)(q:Sz 2000 u)(h:clo3 w z A r s u=some p):p.1.natAbs<2^6400/\p.2.natAbs<2^6400:=by
 unfold clo3 at h;split at h
 ·cases h;have d:∀{a b c:Int}{m n k:Nat},a.natAbs<2^m->b.natAbs<2^n->c.natAbs<2^k->(a*b*c).natAbs<2^(m+n+k):=λB C D=>by
   rw[Zu,Zu];exact B9 (B9 B C) D
  have j:∀x:Rat,Sz 2000 x->((x.den:Int)).natAbs<2^2000:=λx v=>v.b
  have c:(1*(r.den:Int)*(s.den:Int)*(u.den:Int)).natAbs<2^(2000+2000+2000):=by
   rw[Gm];exact d (j _ l) (j _ o) (j _ q)
  have e:∀x y:Rat,Sz 2000 x->Sz 2000 y->((x.den:Int)*(y.den:Int)).natAbs<2^(2000+2000):=λx y v E=>by
   rw[Zu];exact B9 (j _ v) (j _ E)
  refine⟨Zf (zlc (n:=181+150+(2000+2000+2000)) ?_ ?_ ?_) (Bo vA),Zf (zlc (n:=181+2000+(2000+2000)) ?_ ?_ ?_) (Bo vA)⟩
  ·exact d (zay g i) f.c c
  ·exact d (zay i f) g.c c
  ·exact d (zay f g) i.c c
  ·exact d (zay g i) l.t (e _ _ o q)
  ·exact d (zay i f) o.t (e _ _ l q)
  ·exact d (zay f g) q.t (e _ _ l o)
 ·cases h
def lwS_sz{r:List V}{h:H3}(g:0<r.length)(b:Hb h)(d:SyL 600 600 r):Sz 2000 (lwS r h):=by
 obtain⟨_,q,f,e⟩:=zjb g h
 rw[e,zkl];exact(((syI b.a).mul (d q f).1).add ((syI b.b).mul (d q f).2) (k:=1291) vA vA).sz vA vA
def ygu{p:Int×Int}:fac p=Rat.divInt p.1 p.2:=by
 unfold fac;rw[Up,Kl]
def ygt{p:Int×Int}(f:0<p.2)(d:p.1.natAbs<2^420)(e:p.2.natAbs<2^420):Sz 420 (fac p):=by
 rw[ygu];exact(zwf vB d e).sz (Zk _) (Zk _)
open Mg Fi Sf
def toL(e:Int×Int):List Int:=[e.1,e.2]
def ofL(k:List Int):Int×Int:=(k.getD 0 0,k.getD 1 0)
def yko{a b c d:Int}(h:ltK [a,b] [c,d]=true)(e:a≠c):a<c:=by
 unfold ltK at h;simp only[Jo,Zj,decide_eq_true_eq,beq_iff_eq] at h;omega
def zkq{L:List (Int×Int)}(p:L.Nodup)(r:∀e∈L,∀i∈L,e.1=i.1->e=i):∃S:List (Int×Int),ssK (L.map toL)=S.map toL/\S.Perm L/\S.Pairwise (λe i=>e.1<i.1):=by
 have s:∀x∈L.map toL,isPr x=true:=λx f=>by
  obtain⟨e,_,q⟩:=Z5.mp f
  rw[<-q];rfl
 have m:=zpr s;have l:∀x,x∈ssK (L.map toL)↔x∈L.map toL:=λx=>ssK_mem
 generalize ssK (L.map toL)=j at *;have g:∀x∈j,toL (ofL x)=x/\ofL x∈L:=λx f=>by
  obtain⟨e,t,q⟩:=Z5.mp ((l x).mp f)
  rw[<-q];exact⟨rfl,t⟩
 have u:j=(j.map ofL).map toL:=by
  rw[Yd];conv=>lhs;rw[<-List.map_id j]
  exact Qg λx f=>(g x f).1.symm
 have n:(j.map ofL).Pairwise (λe i=>e.1<i.1):=by
  rw[Qb];refine m.imp_of_mem λ{x y} f v d=>?_;obtain⟨w,A⟩:=g x f
  obtain⟨B,C⟩:=g y v
  rw[<-w,<-B] at d;by_cases o:(ofL x).1=(ofL y).1
  ·have:=r _ A _ C o
   rw[this] at d;unfold toL ltK at d;simp at d
  ·exact yko d o
 refine⟨j.map ofL,u,?_,n⟩
 refine(List.perm_ext_iff_of_nodup (n.imp λ{a b} h z=>?_) p).mpr λe=>?_
 ·rw[z] at h;exact absurd h (Uj _)
 ·constructor
  ·intro h;obtain⟨x,f,q⟩:=Z5.mp h
   rw[<-q];exact(g x f).2
  ·intro h;exact Z5.mpr ⟨toL e,(l _).mpr (Z5.mpr ⟨e,h,rfl⟩),rfl⟩
def zcr{d:Type}{f:d->Int}{l m:List d}(h:l.Perm m):(l.map f).sum=(m.map f).sum:=by
 induction h with
 |nil=>rfl
 |cons _ _ e=>simp only[Zz,Wf,e]
 |swap a b l=>simp only[Zz,Wf];omega
 |trans _ _ a b=>exact a.trans b
def znz{d:Type}{f:d->Rat}{l m:List d}(h:l.Perm m):(l.map f).sum=(m.map f).sum:=by
 induction h with
 |nil=>rfl
 |cons _ _ e=>simp only[Zz,Wf,e]
 |swap a b l=>simp only[Zz,Wf];grind
 |trans _ _ a b=>exact a.trans b
structure Cert(h:Nat->H3)(x:Nat->Rat)(N:Nat)(t:Rat)(S:List (Int×Int)):Prop where
 len:S.length=2\/S.length=3
 ok:∀e∈S,∃j:Nat,e.1=(j:Int)/\j<N/\1<=e.2/\e.2.natAbs<2^181
 srt:S.Pairwise (λe e'=>e.1<e'.1)
 sa:(S.map λe=>e.2*(h e.1.toNat).1).sum=0
 sb:(S.map λe=>e.2*(h e.1.toNat).2.1).sum=0
 sc:(((S.map λe=>e.2*(h e.1.toNat).2.2).sum:Int):Rat)=t*(S.map λe=>(e.2:Rat)*x e.1.toNat).sum
def ymu{h:Nat->H3}{x:Nat->Rat}{N n:Nat}{J:Nat->Nat}{k:Nat}{p:Int×Int}(F:FinS h x N n J k p)(u:∀j,Hb (h j)):∃S:List (Int×Int),
  ssK (shK (J (pv n k):Nat) (J k:Nat) (J (nx n k):Nat) (crI (h (J k)) (h (J (nx n k)))) (crI (h (J (nx n k))) (h (J (pv n k)))) (crI (h (J (pv n k))) (h (J k)))
   (gc (gc (gc 0 (crI (h (J k)) (h (J (nx n k))))) (crI (h (J (nx n k))) (h (J (pv n k))))) (crI (h (J (pv n k))) (h (J k)))))=S.map toL/\Cert h x N (fac p) S:=by
 have inj:∀i j,i<n->j<n->i≠j->J i≠J j:=λi j hi hj ne=>by
  rcases Yf i j with z|z
  ·have:=F.mono i j z hj;omega
  ·have:=F.mono j i vB hi;omega
 have B:=F.three;have a0:J (pv n k)≠J k:=inj _ _ (zfa F.lt) F.lt (by unfold pv;have:=F.lt;split<;>omega);have a1:J (pv n k)≠J (nx n k):=inj _ _ (zfa F.lt) (zha F.lt) (zll B F.lt);have a2:J k≠J (nx n k):=inj _ _ F.lt (zha F.lt) (by unfold nx;have:=F.lt;split<;>omega);have X:=F.le _ (zfa F.lt);have l1:=F.le _ F.lt;have l2:=F.le _ (zha F.lt);have w0:=F.w0;have w1:=F.w1;have w2:=F.w2;have sum:=F.sum;have b0:=zay (u (J k)) (u (J (nx n k)));have b1:=zay (u (J (nx n k))) (u (J (pv n k)));have b2:=zay (u (J (pv n k))) (u (J k));have Y:crI (h (J k)) (h (J (nx n k)))*(h (J (pv n k))).1+crI (h (J (nx n k))) (h (J (pv n k)))*(h (J k)).1+crI (h (J (pv n k))) (h (J k))*(h (J (nx n k))).1=0:=by unfold crI;grind
 have Z:crI (h (J k)) (h (J (nx n k)))*(h (J (pv n k))).2.1+crI (h (J (nx n k))) (h (J (pv n k)))*(h (J k)).2.1+crI (h (J (pv n k))) (h (J k))*(h (J (nx n k))).2.1=0:=by unfold crI;grind
 generalize crI (h (J k)) (h (J (nx n k)))=o at *;generalize crI (h (J (nx n k))) (h (J (pv n k)))=r at *;generalize crI (h (J (pv n k))) (h (J k))=s at *;generalize J (pv n k)=w at *;generalize J k=G at *;generalize J (nx n k)=A at *;have gp:0<gc (gc (gc 0 o) r) s:=zdm vB;have d2:gc (gc (gc 0 o) r) s∣s:=Y0 _ _;have H:gc (gc (gc 0 o) r) s∣gc (gc 0 o) r:=Wl _ _;have d1:gc (gc (gc 0 o) r) s∣r:=Y6 H (Y0 _ _);have d0:gc (gc (gc 0 o) r) s∣o:=Y6 H (Y6 (Wl _ _) (Y0 _ _));generalize gc (gc (gc 0 o) r) s=g at *;have f:∀W:Int,g∣W->W.natAbs<2^181->0<=W->∃v:Int,W.fdiv g=v/\W=g*v/\v.natAbs<2^181/\0<=v:=λW hd u hW=>by
  have hf:=zge hd u;obtain⟨v,e⟩:=hd
  have C:W.fdiv g=v:=by rw[e];exact Zw _ vB
  rw[C] at hf;refine⟨v,C,e,hf,?_⟩
  by_cases z:0<=v
  ·exact z
  ·have:=Vk gp (show v<0 by omega)
   omega
 obtain⟨D,f0,P,c0,p0⟩:=f o d0 b0 vB
 obtain⟨v1,f1,I,c1,p1⟩:=f r d1 b1 w1
 obtain⟨E,f2,C,c2,p2⟩:=f s d2 b2 vB
 have K:1<=D:=by
  by_cases z:D=0
  ·rw[z] at P;omega
  ·omega
 have M:1<=E:=by
  by_cases z:E=0
  ·rw[z] at C;omega
  ·omega
 have l:∀z:Int,g*z=0->z=0:=λz Q=>(Vb.mp Q).resolve_left vB
 have gr:(g:Rat)≠0:=λz=>by have:=Qk.mp z;omega
 have O:∀z:Rat,(g:Rat)*z=0->z=0:=λz Q=>(Kf.mp Q).resolve_left gr
 have sa:D*(h w).1+v1*(h G).1+E*(h A).1=0:=l _ (by rw[P,I,C] at Y;grind);have sb:D*(h w).2.1+v1*(h G).2.1+E*(h A).2.1=0:=l _ (by rw[P,I,C] at Z;grind);have sc:(D:Rat)*(((h w).2.2:Rat)-fac p*x w)+(v1:Rat)*(((h G).2.2:Rat)-fac p*x G)+(E:Rat)*(((h A).2.2:Rat)-fac p*x A)=0:=O _ (by
  rw[P,I,C] at sum;simp only[Zy] at sum;grind)
 clear sum Y Z;unfold shK kk1;rw[if_neg (show ¬o=0 by omega),if_neg (show ¬s=0 by omega),f0,f1,f2];by_cases z:r=0
 ·rw[if_pos z];have R:v1=0:=l _ (by rw[<-I];exact z);obtain⟨S,T,d,U⟩:=zkq (L:=[((w:Int),D),((A:Int),E)]) (by simp;omega) (by
   intro e t e' m q;simp only[Zg,Zn,or_false] at t m;rcases t with rfl|rfl<;>rcases m with rfl|rfl
   ·rfl
   ·simp only at q;omega
   ·simp only at q;omega
   ·rfl)
  refine⟨S,T,Or.inl (by rw[d.length_eq];rfl),λe t=>?_,U,?_,?_,?_⟩
  ·have:=d.mem_iff.mp t
   simp only[Zg,Zn,or_false] at this;rcases this with rfl|rfl
   ·exact⟨w,rfl,X,K,c0⟩
   ·exact⟨A,rfl,l2,M,c2⟩
  ·rw[zcr d];simp only[Zz,Wy,Wf,Ko,Z1];rw[R] at sa;omega
  ·rw[zcr d];simp only[Zz,Wy,Wf,Ko,Z1];rw[R] at sb;omega
  ·rw[zcr d,znz d];simp only[Zz,Wy,Wf,Ko,Z1,U5,Zy];rw[R] at sc;rw[show((0:Int):Rat)=0 from rfl] at sc |-;grind
 ·rw[if_neg z];have V:1<=v1:=by
   by_cases y:v1=0
   ·rw[y] at I;omega
   ·omega
  obtain⟨S,T,d,U⟩:=zkq (L:=[((w:Int),D),((G:Int),v1),((A:Int),E)]) (by simp;omega) (by
   intro e t e' m q;simp only[Zg,Zn,or_false] at t m;rcases t with rfl|rfl|rfl<;>rcases m with rfl|rfl|rfl<;>first|rfl|(simp only at q;omega))
  refine⟨S,T,Or.inr (by rw[d.length_eq];rfl),λe t=>?_,U,?_,?_,?_⟩
  ·have:=d.mem_iff.mp t
   simp only[Zg,Zn,or_false] at this;rcases this with rfl|rfl|rfl
   ·exact⟨w,rfl,X,K,c0⟩
   ·exact⟨G,rfl,l1,V,c1⟩
   ·exact⟨A,rfl,l2,M,c2⟩
  ·rw[zcr d];simp only[Zz,Wy,Wf,Ko,Z1];omega
  ·rw[zcr d];simp only[Zz,Wy,Wf,Ko,Z1];omega
  ·rw[zcr d,znz d];simp only[Zz,Wy,Wf,Ko,Z1,U5,Zy];rw[show((0:Int):Rat)=0 from rfl];grind
def dvd_g{g:Int}{t:H3}(d:g∣t.1)(e:g∣t.2.1)(f:g∣t.2.2):g∣gc (gc t.1 t.2.1) t.2.2:=Qv (Qv d e) f
def zqx{d n s:Int}(e:Int.gcd d n=1)(h:d∣n*s):d∣s:=by
 rw[<-V8] at h |-;rw[Zu] at h;exact Nat.Coprime.dvd_of_dvd_mul_left e h
def zxb{s t:H3}{k:Rat}(i:gc (gc s.1 s.2.1) s.2.2=1)(j:gc (gc t.1 t.2.1) t.2.2=1)(l:0<k)(m:(t.1:Rat)=k*s.1)(n:(t.2.1:Rat)=k*s.2.1)(o:(t.2.2:Rat)=k*s.2.2):t=s:=by
 have p:(0:Rat)<((k.den:Int):Rat):=zdh k;have h:=zgl k;have c:∀a b:Int,(b:Rat)=k*a->(k.den:Int)*b=k.num*a:=λa b e=>by
  have:(((k.den:Int)*b:Int):Rat)=((k.num*a:Int):Rat):=by
   rw[Zy,Zy,h,e];grind
  exact Rat.intCast_inj.mp this
 have f:=c _ _ m;have g:=c _ _ n;have g3:=c _ _ o;have q:(k.den:Int)∣k.num:=by
  have d:Int.gcd (k.den:Int) k.num=1:=by
   have:=k.reduced
   rw[K9];exact this
  have r:(k.den:Int)∣s.1:=zqx d ⟨t.1,f.symm⟩;have u:(k.den:Int)∣s.2.1:=zqx d ⟨t.2.1,g.symm⟩;have v:(k.den:Int)∣s.2.2:=zqx d ⟨t.2.2,g3.symm⟩;have:=dvd_g r u v
  rw[i] at this;exact Y6 this (Int.one_dvd _)
 have w:k.den=1:=by
  have d:Int.gcd k.num (k.den:Int)=1:=k.reduced;have:(k.den:Int)∣((Int.gcd k.num (k.den:Int):Nat):Int):=Qv q (Int.dvd_refl _)
  rw[d] at this;have:=Jt (Yr _) this
  omega
 have A:0<k.num:=by
  have:(0:Rat)<((k.num:Int):Rat):=by rw[h];exact Z6 l p
  rw[show(0:Rat)=((0:Int):Rat) from rfl,Z9] at this;exact this
 rw[w] at f g g3;have z:k.num=1:=by
  have:k.num∣gc (gc t.1 t.2.1) t.2.2:=dvd_g ⟨s.1,by omega⟩ ⟨s.2.1,by omega⟩ ⟨s.2.2,by omega⟩
  rw[j] at this;exact Jt vB this
 rw[z] at f g g3;exact Wx vB (Wx vB vB)
open Mg Fi Sf
def yli{a b d n:Int}(f:gc a b=1)(g:gc d n=1):gc (gc (a*d) (b*d)) n=1:=by
 have h:0<=gc (gc (a*d) (b*d)) n:=gc_nn _ _;have i:gc (gc (a*d) (b*d)) n∣n:=Y0 _ _;have j:gc (gc (a*d) (b*d)) n∣gc (a*d) (b*d):=Wl _ _;have e:gc (a*d) (b*d)=(d.natAbs:Int):=by
  unfold gc at f |-;have l:Int.gcd a b=1:=by omega
  rw[Int.gcd_mul_right,l,Nat.one_mul]
 have m:gc (gc (a*d) (b*d)) n∣d:=Int.dvd_natAbs.mp (Y6 j ⟨1,by rw[e,J3]⟩);have:gc (gc (a*d) (b*d)) n∣gc d n:=Qv m i
 rw[g] at this;exact Jt h this
def ydk{s e:V}(E:s≠e){A B m a b:Int}{c:Rat}(F:A=0-(e.2-s.2).num*(e.1-s.1).den)(G:B=(e.1-s.1).num*(e.2-s.2).den)(g:m=gc A B)(H:a=A.fdiv m)(I:b=B.fdiv m)(J:c=(a:Rat)*s.1+(b:Rat)*s.2):
  m≠0/\(a*(c.den:Int),b*(c.den:Int),c.num)=zdf s e:=by
 have t:=zlv E;have L:=zya (c:=(s.2-e.2)*s.1+(e.1-s.1)*s.2) t;obtain⟨k,K,h,i,j⟩:=L.scale
 have d:(A:Rat)=(s.2-e.2)*(((e.2-s.2).den:Int):Rat)*(((e.1-s.1).den:Int):Rat):=by
  rw[F,Qt,Zy,zgl (e.2-s.2),show((0:Int):Rat)=0 from rfl];grind
 have rB:(B:Rat)=(e.1-s.1)*(((e.2-s.2).den:Int):Rat)*(((e.1-s.1).den:Int):Rat):=by
  rw[G,Zy,zgl (e.1-s.1)];grind
 have M:=zdh (e.2-s.2);have N:=zdh (e.1-s.1);have O:=Z6 M N;have P:A≠0\/B≠0:=by
  rcases t with z|z
  ·left
   intro q;rw[q,show((0:Int):Rat)=0 from rfl,Kw] at d;exact z ((Kf.mp d.symm).resolve_right (by grind))
  ·right
   intro q;rw[q,show((0:Int):Rat)=0 from rfl,Kw] at rB;exact z ((Kf.mp rB.symm).resolve_right (by grind))
 have u:0<m:=by
  rw[g];rcases P with z|z
  ·unfold gc;rw[K9];exact zdm z
  ·exact zdm z
 refine⟨by omega,?_⟩
 obtain⟨x,y,ex,f,l⟩:=zht (a:=A) (b:=B) (by rw[<-g];exact u)
 rw[<-g] at ex f;have Q:a=x:=by rw[H,ex];exact Zw _ vB
 have R:b=y:=by rw[I,f];exact Zw _ vB
 rw[<-Q] at ex l;rw[<-R] at f l;have n:gc a b=1:=by unfold gc;rw[l];rfl
 have o:gc (c.den:Int) c.num=1:=by
  have:Int.gcd c.num (c.den:Int)=1:=c.reduced
  unfold gc;rw[K9,this];rfl
 have S:(0:Rat)<(m:Rat):=by rw[show(0:Rat)=((0:Int):Rat) from rfl,Z9];exact u
 have mi:=Jf.mpr S;have X:=W3 (m:Rat) (by grind);have T:=Jf.mpr K;have Y:=W3 k (by grind);have U:=zdh c;have p:(A:Rat)=(m:Rat)*(a:Rat):=by rw[<-Zy,<-ex]
 have r:(B:Rat)=(m:Rat)*(b:Rat):=by rw[<-Zy,<-f]
 have v:(a:Rat)=(m:Rat)⁻¹*(A:Rat):=by rw[p];grind
 have w:(b:Rat)=(m:Rat)⁻¹*(B:Rat):=by rw[r];grind
 have h:((zdf s e).1:Rat)=k*(s.2-e.2):=h;have i:((zdf s e).2.1:Rat)=k*(e.1-s.1):=i;have j:((zdf s e).2.2:Rat)=k*((s.2-e.2)*s.1+(e.1-s.1)*s.2):=j;refine zxb (k:=(((e.2-s.2).den:Int):Rat)*(((e.1-s.1).den:Int):Rat)*(m:Rat)⁻¹*((c.den:Int):Rat)*k⁻¹) L.co (yli n o) (Z6 (Z6 (Z6 O mi) U) T) ?_ ?_ ?_
 ·show((a*(c.den:Int):Int):Rat)=_;rw[Zy,h,v,d];generalize k⁻¹=C at *;generalize (m:Rat)⁻¹=D at *;grind
 ·show((b*(c.den:Int):Int):Rat)=_;rw[Zy,i,w,rB];generalize k⁻¹=C at *;generalize (m:Rat)⁻¹=D at *;grind
 ·show((c.num:Int):Rat)=_;rw[zgl c,j];generalize ((c.den:Int):Rat)=W at *;rw[J,v,w,d,rB];generalize k⁻¹=C at *;generalize (m:Rat)⁻¹=D at *;grind
def yky{l:List V}(e:IsShp l){i:Nat}{x t:Rat}{q v:V}(f:0<t)(d:(((hS l i).2.2:Int):Rat)-t*x<=xr (wy (hS l i)) v)(g:x<=xr (wy (hS l i)) q):0<=oR (rnd l i) (rnd l (i+1)) (q.1*t+v.1,q.2*t+v.2):=by
 obtain⟨k,h,j,m⟩:=zmf e i
 rw[m] at d;rw[j] at d g;have:=Z4 (Ye f) (show 0<=xr (sm k (ed (rnd l) i)) q-x by grind)
 have key:k*oR (rnd l i) (rnd l (i+1)) (q.1*t+v.1,q.2*t+v.2)=t*xr (sm k (ed (rnd l) i)) q+xr (sm k (ed (rnd l) i)) v-xr (sm k (ed (rnd l) i)) (rnd l i):=by
  unfold oR xr sm ed mn;grind
 refine zbe h ?_;rw[V0,key];grind
open Mg Fi Sf PySem
section
variable{α:Type}{f:Nat->α}
def zdg{n i:Nat}(h:i<n):((List.range n).map f)[i]? = some (f i):=by rw[Zi,Ky h];rfl
def zns{n k:Nat}(e:k<n):((List.range n).map f).eraseIdx k=(List.range (n-1)).map λi=>f (er k i):=by
 apply Qc
 intro i;rw[List.getElem?_eraseIdx];by_cases d:i<n-1
 ·rw[zdg d];unfold er;split
  ·rw[zdg vB]
  ·rw[zdg vB]
 ·rw[Yp (l:=(List.range (n-1)).map _) (by rw[Zd,Z8];omega)];split
  ·next z=>omega
  ·rw[Yp (by rw[Zd,Z8];omega)]
def zgj{n:Nat}{i:Int}{j:Nat}(d:j<n)(h:i=(j:Int)\/i=(j:Int)-n):L2.atI ((List.range n).map f) i=some (f j):=by
 have e:L2.ixN ((List.range n).map f).length i=some j:=by
  rw[Zd,Z8];unfold L2.ixN;rcases h with h|h
  ·rw[if_pos vB,if_pos vB];congr 1;omega
  ·rw[if_neg vB,if_pos vB];congr 1;omega
 unfold L2.atI;rw[e,Ya,zdg d]
end
def flD(p:Nat)(h:H3)(x:Rat)(c:D):List D:=[.int (p:Int),hD h,fr x,c]
def osC(A:Nat->Addr)(h:Nat->H3)(x:Nat->Rat)(n:Nat)(J:Nat->Nat)(c:Nat->D):List (Addr×List D):=(List.range n).map λi=>(A (J i),flD (J i) (h (J i)) (x (J i)) (c i))
def osJ(A:Nat->Addr)(h:Nat->H3)(x:Nat->Rat)(n:Nat)(J:Nat->Nat):List (Addr×List D):=osC A h x n J λi=>clD (clJ h x n J i)
section
variable{A:Nat->Addr}{h:Nat->H3}{x:Nat->Rat}{n:Nat}{J:Nat->Nat}{c:Nat->D}
def yju:(osC A h x n J c).length=n:=by unfold osC;rw[Zd,Z8]
def zuj:dOs (osC A h x n J c)=(List.range n).map λi=>bD (A (J i)) (J i:Int) (h (J i)) (x (J i)) (c i):=by
 unfold dOs osC;rw[Yd];rfl
def zlo{i:Nat}{d:D}(g:i<n)(inj:∀i j,i<n->j<n->A (J i)=A (J j)->i=j):setC (osC A h x n J c) (A (J i)) d=osC A h x n J λj=>if j=i then d else c j:=by
 unfold setC osC;rw[Yd];refine Qg λj f=>?_;have f:=W8.mp f;show(A (J j),if A (J j)=A (J i) then(flD (J j) (h (J j)) (x (J j)) (c j)).set 3 d else flD (J j) (h (J j)) (x (J j)) (c j))=(A (J j),flD (J j) (h (J j)) (x (J j)) (if j=i then d else c j));by_cases e:j=i
 ·subst e;rw[if_pos rfl,if_pos rfl];rfl
 ·rw[if_neg (λz=>e (inj j i f g z)),if_neg e]
def zlp{i:Nat}(d:i<n):A (J i)∈(osC A h x n J c).map (·.1):=by
 unfold osC;rw[Yd];exact Z5.mpr ⟨i,W8.mpr d,rfl⟩
def zob{d:Nat->D}(e:∀i,i<n->c i=d i):osC A h x n J c=osC A h x n J d:=by
 unfold osC;refine Qg λj f=>?_;rw[e j (W8.mp f)]
def l1(n k:Nat):Nat:=if k=0 then n-2 else k-1
def l2(n k:Nat):Nat:=if k=n-1 then 0 else k
def yen{k i:Nat}(d:3<=n)(e:k<n)(f:i<n-1)(n1:i≠l1 n k)(n2:i≠l2 n k):clJ h x (n-1) (λi=>J (er k i)) i=clJ h x n J (er k i):=by
 unfold clJ;have g:=ymd d e f;have j:=er_pv d e f;have l:nx n (er k i)≠k:=by
  unfold l1 at n1;unfold nx er;split at n1<;>(repeat' split)<;>omega
 have m:pv n (er k i)≠k:=by
  unfold l2 at n2;unfold pv er;split at n2<;>(repeat' split)<;>omega
 rw[if_neg l] at g;rw[if_neg m] at j;dsimp only;rw[g,j]
def ycn{k:Nat}(l:3<=n)(f:k<n)(inj:∀i j,i<n->j<n->A (J i)=A (J j)->i=j):
  setC (setC ((osJ A h x n J).eraseIdx k) (A (J (er k (l1 n k)))) (clD (clJ h x (n-1) (λi=>J (er k i)) (l1 n k)))) (A (J (er k (l2 n k)))) (clD (clJ h x (n-1) (λi=>J (er k i)) (l2 n k)))=osJ A h x (n-1) (λi=>J (er k i)):=by
 have m:(osJ A h x n J).eraseIdx k=osC A h x (n-1) (λi=>J (er k i)) λi=>clD (clJ h x n J (er k i)):=by
  unfold osJ osC;rw[zns f]
 have o:l1 n k<n-1:=by unfold l1;split<;>omega
 have p:l2 n k<n-1:=by unfold l2;split<;>omega
 have d:∀i j,i<n-1->j<n-1->A (J (er k i))=A (J (er k j))->i=j:=λi j g q e=>by
  have:=inj _ _ (zen f g) (zen f q) e
  unfold er at this;split at this<;>split at this<;>omega
 rw[m,zlo (J:=λi=>J (er k i)) o d,zlo (J:=λi=>J (er k i)) p d];refine zob λi g=>?_;split
 ·next z=>rw[z]
 ·next z=>
  split
  ·next y=>rw[y]
  ·next y=>rw[yen l f g y z]
end
open Sf
open Mg Fi PySem
section
variable{Γ:Nat->∅}
def Psi(T:D)(a:Addr)(d:D):Prop:=∃(m l n:Addr) (o p q:Int) (e f g:H3) (h i j:Rat) (r s t:D),(Hb e/\Hb f/\Hb g)/\(Sz 2000 h/\Sz 2000 i/\Sz 2000 j)/\T=.tup [bD m o e h r,bD l p f i s,bD n q g j t]/\a=l/\d=clD (clo3 e f g h i j)
def den8{x:Rat}(z:Sz 2000 x):((x.den:Int)).natAbs<2^2000:=z.b
def dnz{x:Rat}:(x.den:Int)≠0:=by have:=x.den_nz;omega
def bd2{a b:Int}{m n:Nat}(d:a.natAbs<2^m)(e:b.natAbs<2^n):(a*b).natAbs<2^(m+n):=by rw[Zu];exact B9 d e
def psi_ok(E:Γ 93=zac):∀T a d,Psi T a d->∃h l,exs Γ o_set_closing.1 ([~~~T]++List.replicate 6 none)=some (.nx h)/\(view h)[6]? = some (some (.obj a l))/\ev Γ o_set_closing.2.1 (view h)=some (.val d):=by
 rintro T a d ⟨J,U,K,L,F,M,m,i,n,f,e,g,N,G,O,⟨o,p,q⟩,⟨s,u,v⟩,rfl,rfl,rfl⟩
 have P:=zeh (a0:=J) (a1:=a) (a2:=K) (p0:=L) (p1:=F) (p2:=M) (x0:=f) (x1:=e) (x2:=g) (c0:=N) (c1:=G) (c2:=O) (o.hb vA) (p.hb vA) (q.hb vA);have w:=zay p q;have A:=zay q o;have B:=zay o p;have j:=den8 s;have r:=den8 u;have C:=den8 v;have D:(1:Int).natAbs<2^1:=by decide
 have H:=bd2 (bd2 (bd2 D j) r) C;have Q:(1*(f.den:Int)*(e.den:Int)*(g.den:Int)).fdiv (f.den:Int)=(e.den:Int)*(g.den:Int):=by
  rw[show(1*(f.den:Int)*(e.den:Int)*(g.den:Int))=(f.den:Int)*((e.den:Int)*(g.den:Int)) by grind];exact Zw _ dnz
 have R:(1*(f.den:Int)*(e.den:Int)*(g.den:Int)).fdiv (e.den:Int)=(f.den:Int)*(g.den:Int):=by
  rw[show(1*(f.den:Int)*(e.den:Int)*(g.den:Int))=(e.den:Int)*((f.den:Int)*(g.den:Int)) by grind];exact Zw _ dnz
 have S:(1*(f.den:Int)*(e.den:Int)*(g.den:Int)).fdiv (g.den:Int)=(f.den:Int)*(e.den:Int):=by
  rw[show(1*(f.den:Int)*(e.den:Int)*(g.den:Int))=(g.den:Int)*((f.den:Int)*(e.den:Int)) by grind];exact Zw _ dnz
 have I:∀{x:Rat},Sz 2000 x->zbm (x.den:Int)=true:=λz=>zbf dnz (den8 z) vA
 have run:=yin (Γ:=Γ) (a0:=J) (a1:=a) (a2:=K) (p0:=.int L) (p1:=.int F) (p2:=.int M) (cl0:=N) (cl1:=G) (cl2:=O) (s0:=m.1) (t0:=m.2.1) (u0:=m.2.2) (s1:=i.1) (t1:=i.2.1) (u1:=i.2.2) (s2:=n.1) (t2:=n.2.1) (u2:=n.2.2)
  (n0:=f.num) (n1:=e.num) (n2:=g.num) (d0:=f.den) (d1:=e.den) (d2:=g.den) (w0:=crI i n) (w1:=crI n m) (w2:=crI m i) (c:=1*f.den*e.den*g.den) (e0:=e.den*g.den) (e1:=f.den*g.den) (e2:=f.den*e.den)
  (by rw[E];exact P) (Bj D j vA vA) (Bj (bd2 D j) r vA vA) (Bj (bd2 (bd2 D j) r) C vA vA) rfl
  (Bj w o.c vA vA) (Bj (bd2 w o.c) H vA vA) (Bj w s.t vA vA) (I s) (Bj (bd2 w s.t) (bd2 r C) vA vA) Q
  (Bj A p.c vA vA) (Bj (bd2 A p.c) H vA vA) (Bj A u.t vA vA) (I u) (Bj (bd2 A u.t) (bd2 j C) vA vA) R
  (Bj B q.c vA vA) (Bj (bd2 B q.c) H vA vA) (Bj B v.t vA vA) (I v) (Bj (bd2 B v.t) (bd2 j r) vA vA) S
 refine⟨_,[.int F,hD i,fr e,G],run,?_,?_⟩
 ·rfl
 ·exact yim
def zzp(c:Option (Int×Int)):lf (clD c)=true:=by cases c<;>rfl
def zhi{f:Nat->D}{n i:Nat}{k:Int}(d:i<n)(n2:2<=n)(g:k=(i:Int)\/(k = -1/\i=n-1)):zcf [.lst ((List.range n).map f),.int k]=some (.val (.tup [f (pv n i),f i,f (nx n i)])):=by
 refine yax (by rw[Zd,Z8];omega) (zgj (zfa d) ?_) (zgj d vB) (zgj (zha d) ?_)
 ·unfold pv;split<;>omega
 ·rw[Zd,Z8,Q0 _ vB];left
  unfold nx;split
  ·next e=>
   have:k+1=(n:Int)\/k+1=0:=by omega
   rcases this with z|z
   ·rw[z,Int.emod_self];rfl
   ·rw[z];rfl
  ·next e=>rw[Bc vB vB];omega
def Tht(e:List (Addr×List D))(f:Int)(d:List (Addr×List D)):Prop:=∃(A:Nat->Addr) (h:Nat->H3) (x:Nat->Rat) (n:Nat) (J:Nat->Nat) (k:Nat),(∀i,Hb (h i))/\(∀i,Sz 2000 (x i))/\3<=n/\n<=1000/\k<n/\(∀i j,i<n->j<n->A (J i)=A (J j)->i=j)/\e=osJ A h x n J/\f=(k:Int)/\d=osJ A h x (n-1) λi=>J (er k i)
def zwy{A:Nat->Addr}{h:Nat->H3}{x:Nat->Rat}{n:Nat}{J:Nat->Nat}{c:Nat->D}(d:∀i,Hb (h i))(e:∀i,Sz 2000 (x i))(i:Nat):
  Psi (.tup [bD (A (J (pv n i))) (J (pv n i):Int) (h (J (pv n i))) (x (J (pv n i))) (c (pv n i)),bD (A (J i)) (J i:Int) (h (J i)) (x (J i)) (c i),bD (A (J (nx n i))) (J (nx n i):Int) (h (J (nx n i))) (x (J (nx n i))) (c (nx n i))]) (A (J i)) (clD (clJ h x n J i)):=
 ⟨_,_,_,_,_,_,_,_,_,_,_,_,_,_,_,⟨d _,d _,d _⟩,⟨e _,e _,e _⟩,rfl,rfl,rfl⟩
def ymi(d:Γ 92=zcf){L:List D}{k:Int}{T:D}(h:zcf [.lst L,.int (k-1)]=some (.val T)):evs Γ o_drop.1 [some (.lst L),some (.int k)]=some [T]:=by
 unfold o_drop;dsimp only;walk_at "evh"
def ymh(d:Γ 92=zcf){L:List D}{k m:Int}{T:D}(e:(L.length:Int)=m)(f:0<m)(mn:m≠0)(h:zcf [.lst L,.int (k%m)]=some (.val T)):evs Γ o_drop.2 [some (.lst L),some (.int k)]=some [T]:=by
 unfold o_drop;dsimp only;walk_at "evh"
def tht_ok(o:Γ 92=zcf):∀d g l,Tht d g l -> -(2^63)<=g/\g<2^63/\∃n v r d1 w t d2,seqIndex? g d.length=some n/\n<d.length /\
   evs Γ o_drop.1 [some (.lst (dOs (d.eraseIdx n))),some (.int g)]=some [v]/\Psi v r d1/\lf d1=true/\r∈(d.eraseIdx n).map (·.1) /\
   evs Γ o_drop.2 [some (.lst (dOs (setC (d.eraseIdx n) r d1))),some (.int g)]=some [w]/\Psi w t d2/\lf d2=true/\t∈(d.eraseIdx n).map (·.1)/\l=setC (setC (d.eraseIdx n) r d1) t d2:=by
 rintro d g l ⟨A,h,x,n,J,k,B,sx,E,I,p,inj,rfl,rfl,rfl⟩
 have C:(osJ A h x n J).length=n:=yju;have u:l1 n k<n-1:=by unfold l1;split<;>omega
 have D:l2 n k<n-1:=by unfold l2;split<;>omega
 have q:∀i j,i<n-1->j<n-1->A (J (er k i))=A (J (er k j))->i=j:=λi j F G e=>by
  have:=inj _ _ (zen p F) (zen p G) e
  unfold er at this;split at this<;>split at this<;>omega
 have s:(osJ A h x n J).eraseIdx k=osC A h x (n-1) (λi=>J (er k i)) λi=>clD (clJ h x n J (er k i)):=by
  unfold osJ osC;rw[zns p]
 have H:setC ((osJ A h x n J).eraseIdx k) (A (J (er k (l1 n k)))) (clD (clJ h x (n-1) (λi=>J (er k i)) (l1 n k)))=osC A h x (n-1) (λi=>J (er k i)) λj=>if j=l1 n k then clD (clJ h x (n-1) (λi=>J (er k i)) (l1 n k)) else clD (clJ h x n J (er k j)):=by
  rw[s,zlo (J:=λi=>J (er k i)) u q]
 refine⟨by omega,by omega,k,_,_,_,_,_,_,?_,by rw[C];exact p,?_,zwy (A:=A) (J:=λi=>J (er k i)) (n:=n-1) (c:=λi=>clD (clJ h x n J (er k i))) B sx (l1 n k),zzp _,?_,?_,zwy (A:=A) (J:=λi=>J (er k i)) (n:=n-1) (c:=λj=>if j=l1 n k then clD (clJ h x (n-1) (λi=>J (er k i)) (l1 n k)) else clD (clJ h x n J (er k j))) B sx (l2 n k),zzp _,?_,(ycn E p inj).symm⟩
 ·rw[C];exact(L2.ixN_seq (show L2.ixN n (k:Int)=some k by unfold L2.ixN;rw[if_pos vB,if_pos vB];congr 1)).1
 ·rw[s,zuj];refine ymi o (zhi (f:=λi=>bD (A (J (er k i))) (J (er k i):Int) (h (J (er k i))) (x (J (er k i))) (clD (clJ h x n J (er k i)))) u vB ?_);unfold l1;split<;>omega
 ·rw[s];exact zlp (J:=λi=>J (er k i)) u
 ·rw[H,zuj];refine ymh o (m:=((n-1:Nat):Int)) (by rw[Zd,Z8]) vB vB (zhi (f:=λj=>bD (A (J (er k j))) (J (er k j):Int) (h (J (er k j))) (x (J (er k j))) (if j=l1 n k then clD (clJ h x (n-1) (λi=>J (er k i)) (l1 n k)) else clD (clJ h x n J (er k j)))) D vB (.inl ?_));unfold l2;split
  ·next z=>rw[show(k:Int)=((n-1:Nat):Int) by omega,Int.emod_self];rfl
  ·next z=>exact Bc vB vB
 ·rw[s];exact zlp (J:=λi=>J (er k i)) D
end
open Sf
open Mg Fi PySem
section
variable{Γ:Nat->∅}
def zom{a b:Int}{q:Rat×Rat}(i:a.natAbs<2^110)(j:b.natAbs<2^110)(e:Sz 600 q.1)(f:Sz 600 q.2):zed [.int a,.int b,stD q]=some (.val (fr (lv a b q))):=by
 unfold zed;generalize d:tab zhl=Γ;have m:Γ 9=zhb:=by rw[<-d];rfl
 have l:Γ 11=zae:=by rw[<-d];rfl
 have g:=zax i vA;have h:=zax j vA;have n:zae [.tup [.int a,.int 1],fr q.1]=some (.val (fr ((a:Rat)*q.1))):=zal (x:=(a:Rat)) (Bw g e vA vA);have o:zae [.tup [.int b,.int 1],fr q.2]=some (.val (fr ((b:Rat)*q.2))):=zal (x:=(b:Rat)) (Bw h f vA vA);have p:zhb [fr ((a:Rat)*q.1),fr ((b:Rat)*q.2)]=some (.val (fr (lv a b q))):=zal (Bw (g.mul e) (h.mul f) vA vA);generalize fr (lv a b q)=O at *;generalize fr ((a:Rat)*q.1)=X at *;generalize fr ((b:Rat)*q.2)=Y at *;clear g h i j e f d;unfold zjt stD;walk_at "evh"
def zui(e:Γ 50=zed)(f:Γ 21=zgn){L:Option DL.B}{a b:Int}{X Q O:D}{d:Option DL.B}{c:Bool}(g:lf O=true)(h:lf X=true)(l1:zed [.int a,.int b,Q]=some (.val O))(i:zgn [X,O]=some (.val (.bl c))):
  exs Γ zfo [L,~~~.int a,~~~.int b,~~~X,~~~Q,d]=some (.nx [L,~~~.int a,~~~.int b,~~~(if c=true then O else X),~~~Q,~~~O]):=by
 unfold zfo;cases c
 ·walk_at "evh"
 ·walk_at "evh"
theorem zsg(f:Γ 50=zed)(g:Γ 21=zgn){a b:Int}(i:a.natAbs<2^110)(j:b.natAbs<2^110)(L:Option DL.B):∀(r:List (Rat×Rat)) (x:Rat) (c d:Option DL.B),SzL 600 r->Sz 1500 x ->
  ∃l m,forN (Bv (.name 4)) (exs Γ zfo) (r.map stD) [L,~~~.int a,~~~.int b,~~~fr x,c,d]=some (.nx [L,~~~.int a,~~~.int b,~~~fr (mx a b x r),l,m])
 |[],x,c,d,_,_=>⟨c,d,rfl⟩
 |q::r,x,c,d,n,t=>by
  obtain⟨o,p⟩:=n q (.head _)
  have u:Sz 1500 (lv a b q):=(((zax i vA).mul o).add ((zax j vA).mul p)).mono vA;obtain⟨l,m,k⟩:=zsg f g i j L r (if x<lv a b q then lv a b q else x) (~~~stD q) (~~~fr (lv a b q)) (λy v=>n y (.tail _ v)) (by split<;>assumption)
  refine⟨l,m,?_⟩
  have w:zgn [fr x,fr (lv a b q)]=some (.val (.bl (decide (x<lv a b q)))):=zal (Bw t u vA vA);have s:=zui (L:=L) (d:=d) f g (zyc _) (zyc _) (zom i j o p) w;have e:(if decide (x<lv a b q)=true then fr (lv a b q) else fr x)=fr (if x<lv a b q then lv a b q else x):=by
   by_cases h:x<lv a b q
   ·rw[decide_eq_true h,if_pos rfl,if_pos h]
   ·rw[decide_eq_false h,if_neg vA,if_neg h]
  rw[e] at s;rw[Zz,zbs rfl s];exact k
def zww{a b:Int}(e:a.natAbs<2^110)(f:b.natAbs<2^110){q:Rat×Rat}{r:List (Rat×Rat)}(g:SzL 600 (q::r)):zfg [.lst ((q::r).map stD),.int a,.int b]=some (.val (fr (mx a b (lv a b q) r))):=by
 unfold zfg;generalize d:tab zhk=Γ;have h:Γ 50=zed:=by rw[<-d];rfl
 have i:Γ 21=zgn:=by rw[<-d];rfl
 obtain⟨j,m⟩:=g q (.head _)
 have l1:=zom e f j m;obtain⟨o,p,k⟩:=zsg h i e f (~~~.lst ((q::r).map stD)) r (lv a b q) none none (λy n=>g y (.tail _ n)) ((((zax e vA).mul j).add ((zax f vA).mul m)).mono vA)
 have s:L2.atI ((q::r).map stD) 0=some (stD q):=by rw[Zz,yag vA (by rw[Zq];omega)];rfl
 have t:cutD ((q::r).map stD) (some 1) none=r.map stD:=by
  have:=ztb (l:=(q::r).map stD) (a:=1) (by rw[Zd,Zq];omega)
  rw[show((1:Nat):Int)=1 from rfl] at this;rw[this];rfl
 have u:=zjd r;unfold zfo at k;generalize (q::r).map stD=v at *;generalize r.map stD=w at *;generalize stD q=Q at *;generalize mx a b (lv a b q) r=M at *;generalize lv a b q=X at *;clear j m g e f d;unfold zgh;walk_at "evh"
def bo_it(e:Γ 40=zix){d d1:D}{L:List D}(h:zix [d]=some (.new L)):evI Γ o_bounds_of.1 [~~~d,~~~d1,none,none,none,none,none]=some (zea L,[~~~d,~~~d1,none,none,none,none,none]):=by
 have f:frz [~~~d,~~~d1,none,none,none,none,none]=[~~~d,~~~d1,none,none,none,none,none]:=rfl;unfold o_bounds_of;dsimp only;walk_at "evh"
def bo_le(d:Γ 10=zaq)(e:Γ 59=zfg){f d1 p:D}{a b c:Int}{g:Option D}{M O:D}(h:zfg [d1,.int (-a),.int (-b)]=some (.val M))(i:zaq [.tup [.int 0,.int 1],M]=some (.val O)):ev Γ o_bounds_of.2.1 (rB f d1 (some p) (some (.tup [.int a,.int b,.int c])) g none)=some (.val O):=by
 unfold o_bounds_of rB;dsimp only;walk_at "evh"
def bo_s3(e:Γ 92=zcf){f d1:D}{g i j:Option D}{k:Int}{d:List (Addr×List D)}{T:D}(h:zcf [.lst (dOs d),.int k]=some (.val T)):evs Γ o_bounds_of.2.2.1 (rhoB (rB f d1 g i j (some (.int k))) 2 d)=some [T]:=by
 unfold o_bounds_of rhoB rB;dsimp only;walk_at "evh"
def bo_sl{f d1:D}{g h i:Option D}{d:List (Addr×List D)}:evs Γ o_bounds_of.2.2.2 (rhoB (rB f d1 g h i none) 2 d)=some [.int (d.length:Int)]:=by
 have e:((dOs d).length:Int)=(d.length:Int):=by unfold dOs;rw[Zd]
 unfold o_bounds_of rhoB rB;dsimp only;walk_at "evh"
structure Bd2(l r:List V):Prop where
 hl:IsShp l
 hr:IsShp r
 zl:SzL 165 l
 hb:∀i,Hb (hS l i)
 zr:SyL 600 600 r
 fl:l.length<=60
 fr:r.length<=60
def Bd2.pl{l r:List V}(T:Bd2 l r):0<l.length:=by have:=T.hl.three;omega
def Bd2.pr{l r:List V}(T:Bd2 l r):0<r.length:=by have:=T.hr.three;omega
def xS(l r:List V)(i:Nat):Rat:=lwS r (hS l i)
def Bd2.sx{l r:List V}(T:Bd2 l r)(i:Nat):Sz 2000 (xS l r i):=lwS_sz T.pr (T.hb i) T.zr
structure TwoS(l r:List V):Prop extends Bd2 l r where
 zs:SyL 80 12 r
def TwoS.mk'{l r:List V}(e:IsShp l)(f:IsShp r)(g:SzL 165 l)(h:∀i,Hb (hS l i))(zs:SyL 80 12 r)(j:l.length<=60)(fr:r.length<=60):TwoS l r:=
 ⟨⟨e,f,g,h,λq d=>⟨(zs q d).1.mono vA vA,(zs q d).2.mono vA vA⟩,j,fr⟩,zs⟩
def TwoS.ss{l r:List V}(T:TwoS l r)(i:Nat):Sy 184 26 (xS l r i):=lwS_sy T.pr (T.hb i) T.zs
def lsS(l r:List V)(c:Nat->D):List (List D):=(List.range l.length).map λi=>flD i (hS l i) (xS l r i) (c i)
def Xi(d d1:D)(e:List (List D)):Prop:=∃l r,Bd2 l r/\d=.lst (l.map stD)/\d1=.lst (r.map stD)/\e=lsS l r λi=>clD (clJ (hS l) (xS l r) l.length (λi=>i) i)
def zwv{l r:List V}(T:Bd2 l r)(i:Nat):∃M,zfg [.lst (r.map stD),.int (-(hS l i).1),.int (-(hS l i).2.1)]=some (.val (fr M))/\zaq [.tup [.int 0,.int 1],fr M]=some (.val (fr (xS l r i))):=by
 have g:=T.hb i;have d:=T.sx i;have f:=T.zr;have h:=T.pr;unfold xS lwS at *;match r,h,f,d with
 |q::r,_,f,d=>
  refine⟨_,zww (by rw[Kq];exact Zf g.a (Bo vA)) (by rw[Kq];exact Zf g.b (Bo vA)) (f.sz vA vA),?_⟩
  have e:mx (-(hS l i).1) (-(hS l i).2.1) (lv (-(hS l i).1) (-(hS l i).2.1) q) r=0-(0-mx (-(hS l i).1) (-(hS l i).2.1) (lv (-(hS l i).1) (-(hS l i).2.1) q) r):=by grind
  simp only[List.headD_cons,List.tail_cons] at d |-;refine zal (x:=0) (Bw (m:=1) (n:=2000) ⟨by decide,by decide⟩ ?_ vA vA);rw[e,Ke,Rat.zero_add];exact d.neg
def rng_getD{e:Type}{d:List e}{a:e}:(List.range d.length).map (λi=>d.getD i a)=d:=by
 apply Qc
 intro i;by_cases h:i<d.length
 ·rw[zdg h,Zx,Zh h];rfl
 ·rw[Yp (by rw[Zd,Z8];omega),Yp vB]
def zsm{f:Type}{d:List f}{a:f}(g:d.Nodup){i j:Nat}(h:i<d.length)(l:j<d.length)(e:d.getD i a=d.getD j a):i=j:=by
 rw[Zx,Zx,Zh h,Zh l] at e;exact(Kt g).mp e
def xi_ok(C:Γ 40=zix)(E:Γ 10=zaq)(F:Γ 59=zfg)(G:Γ 92=zcf):∀m d1 H,Xi m d1 H->∃g o,g.length<1000/\evI Γ o_bounds_of.1 [~~~m,~~~d1,none,none,none,none,none]=some (g,[~~~m,~~~d1,none,none,none,none,none])/\o.length=g.length /\
   (∀(i:Nat) (d:D),g[i]? = some d->∃p s l,d=D.tup [p,s]/\o[i]? = some [p,s,l,.non]/\∀q,ev Γ o_bounds_of.2.1 (rB m d1 (some p) (some s) q none)=some (.val l)) /\
   (∀I K q w,w.length=g.length->evs Γ o_bounds_of.2.2.2 (rhoB (rB m d1 I K q none) 2 w)=some [.int (w.length:Int)]) /\
   ∀h,h.Nodup->h.length=g.length->zzn Γ Psi m d1 o_bounds_of.2.2.1 g.length h o H:=by
 rintro m d1 H ⟨l,r,T,rfl,rfl,rfl⟩
 have L:=T.hl.three;have z:(zea ((zbj l).map hD)).length=l.length:=by unfold zea;rw[Zd,Uc,Zd,zfw]
 refine⟨zea ((zbj l).map hD),lsS l r λ_=>.non,?_,bo_it C (zwl (nodup T.hl) vB (by have:=T.fl;omega) T.zl),?_,λi d B=>?_,λI K q w _=>bo_sl,λh Q O=>?_⟩
 ·rw[z];have:=T.fl;omega
 ·rw[z];unfold lsS;rw[Zd,Z8]
 ·have t:i<l.length:=by
   have:=(Zo.mp B).1
   rw[z] at this;exact this
  unfold zea at B;rw[Zi,List.getElem?_zipIdx,Zi,zfx t] at B;have v:D.tup [.int ((0+i:Nat):Int),hD (hS l i)]=d:=Z0 B;rw[Wo] at v;obtain⟨M,R,S⟩:=zwv T i
  refine⟨.int (i:Int),hD (hS l i),fr (xS l r i),v.symm,?_,λq=>?_⟩
  ·unfold lsS;rw[zdg t];rfl
  ·exact bo_le E F R S
 ·rw[z] at O |-;obtain⟨u,_⟩:∃a,h[0]? = some a:=⟨h[0]'vB,Zh _⟩
  have inj:∀i j,i<l.length->j<l.length->h.getD i u=h.getD j u->i=j:=λi j t U e=>zsm Q vB vB e
  refine⟨λk=>osC (λi=>h.getD i u) (hS l) (xS l r) l.length (λi=>i) λi=>if i<k then clD (clJ (hS l) (xS l r) l.length (λi=>i) i) else .non,?_,?_,?_,λk N=>?_⟩
  ·unfold osC;rw[Yd,<-O];exact rng_getD
  ·unfold osC lsS;rw[Yd];exact Qg λi _=>by simp only[Function.comp,Nat.not_lt_zero,if_false]
  ·unfold osC lsS;rw[Yd];exact Qg λi t=>by simp only[Function.comp,W8.mp t,if_true]
  ·refine⟨_,_,_,λI K q=>bo_s3 G ?_,zwy (A:=λi=>h.getD i u) (J:=λi=>i) (n:=l.length) (c:=λi=>if i<k then clD (clJ (hS l) (xS l r) l.length (λi=>i) i) else .non) T.hb T.sx k,zzp _,zlp (J:=λi=>i) N,?_⟩
   ·rw[zuj];exact zhi (f:=λi=>bD (h.getD i u) ((i:Nat):Int) (hS l i) (xS l r i) (if i<k then clD (clJ (hS l) (xS l r) l.length (λi=>i) i) else .non)) N vB (.inl rfl)
   ·rw[zlo (A:=λi=>h.getD i u) (J:=λi=>i) N inj];refine zob λi t=>?_;by_cases e:i=k
    ·subst e;rw[if_pos rfl,if_pos (Wj _)]
    ·rw[if_neg e];by_cases P:i<k
     ·rw[if_pos P,if_pos vB]
     ·rw[if_neg P,if_neg vB]
def ear_s0{d:Nat->Option (Int×Int)}{j:Nat}(h:d j=none):ear d (j+1)=ear d j:=by
 conv=>lhs;unfold ear
 rw[h]
def ear_s1{d:Nat->Option (Int×Int)}{j:Nat}{r:Int×Int}(h:d j=some r)(f:ear d j=none):ear d (j+1)=some j:=by
 conv=>lhs;unfold ear
 rw[h];simp only;rw[f]
def ear_s2{d:Nat->Option (Int×Int)}{j i:Nat}{r p:Int×Int}(h:d j=some r)(f:ear d j=some i)(g:d i=some p):ear d (j+1)=some (if r.1*p.2<p.1*r.2 then j else i):=by
 conv=>lhs;unfold ear
 rw[h];simp only;rw[f];simp only;rw[g]
def zou{L:List D}{n:Nat}{h:Nat->Option (Int×Int)}(K:L.length=n)(z:n<=1000)(A:∀i,i<n->∃a p s l,L[i]? = some (.obj a [.int p,s,l,clD (h i)]))(G:∀i q,h i=some q->0<q.2)
 (B:∀i q,h i=some q->q.1.natAbs<2^16000/\q.2.natAbs<2^16000):zbr [.lst L]=some (.val (fD (ear h n))):=by
 unfold zbr;generalize m:tab [(21,zbk)]=Γ;have C:Γ 21=zbk:=by rw[<-m];rfl
 obtain⟨M,e,E,v,rfl⟩:=zdv (bt:=Bv (.name 2)) (fb:=exs Γ zms) (I:=λk H=>∃E v,H=[~~~.lst L,~~~fD (ear h k),E,v]) n [~~~.lst L,~~~.non,none,none] ⟨none,none,rfl⟩ (λj H N ⟨E,v,e⟩=>by
  subst e;have bf:=zmt G j;obtain⟨a,p,s,l,g⟩:=A j N
  have o:=zjv g;refine⟨[~~~.lst L,~~~fD (ear h j),~~~.int (j:Int),v],?_⟩
  cases q:h j with
  |none=>
   rw[q] at o;refine⟨_,rfl,yec (by cases ear h j<;>rfl) o,_,_,by rw[ear_s0 q]⟩
  |some r=>
   rw[q] at o;cases f:ear h j with
   |none=>exact⟨_,rfl,zyz o,_,_,by rw[ear_s1 q f];rfl⟩
   |some i=>
    rw[f] at bf;obtain⟨V,t,F,W⟩:=bf
    obtain⟨Y,Z,s',l',gi⟩:=A i vB
    have u:=zjv gi;rw[F] at u;obtain⟨O,P⟩:=B j r q
    obtain⟨Q,R⟩:=B i t F
    have S:=zvd (a:=r.1) (b:=r.2) (c:=t.1) (d:=t.2) (by unfold Bn;rw[decide_eq_true O,decide_eq_true R];rfl) (by unfold Bn;rw[decide_eq_true Q,decide_eq_true P];rfl);refine⟨_,rfl,yed C o u S,~~~.int (j:Int),~~~.tup [.int r.1,.int r.2],?_⟩
    rw[ear_s2 q f F];by_cases w:r.1*t.2<t.1*r.2
    ·rw[decide_eq_true w,if_pos rfl,if_pos w];rfl
    ·rw[decide_eq_false w,if_neg vA,if_neg w];rfl)
 have J:lf (fD (ear h n))=true:=by cases ear h n<;>rfl
 generalize T:fD (ear h n)=X at *;have U:(L.length:Int)=(n:Int):=by rw[K]
 have r1 : -4611686018427387904<=(n:Int)/\(n:Int)<4611686018427387904:=⟨by omega,by omega⟩;have r2:((n:Int)).toNat=n:=Z1 n;unfold zcx;clear A G B T m z;walk_at "evh"
end
open Sf
open Mg Fi PySem
section
variable{Γ:Nat->∅}
def ygs{i:∅}(j:Γ 95=i){f d1:D}{g:Option D}{d:List (Addr×List D)}{k:D}(h:i [.lst (dOs d)]=some (.val k)):ev Γ o_fit.1 (rhoB (rF f d1 g 6) 2 d)=some (.val k):=by
 have e:rhoB (rF f d1 g 6) 2 d=[some f,some d1,some (.lst (dOs d)),g,none,none,none,none,none,none]:=rfl;rw[e];unfold o_fit;dsimp only;clear e;walk_at "evh"
def fit_te{g:∅}(i:Γ 96=g){d0 d1:D}{k:Int}{f:List (Addr×List D)}{b:Bool}(h:g [.lst (dOs f),.int k]=some (.val (.bl b))):((ev Γ o_fit.2.1 (rhoB (rF d0 d1 (some (.int k)) 6) 2 f)).map W.d).bind zbt=some (!b):=by
 have e:rhoB (rF d0 d1 (some (.int k)) 6) 2 f=[some d0,some d1,some (.lst (dOs f)),some (.int k),none,none,none,none,none,none]:=rfl;rw[e];unfold o_fit;dsimp only;clear e;walk_at "evh"
def ydx{f g h i:∅}(q:Γ 92=f)(s:Γ 1=g)(p:Γ 126=h)(r:Γ 98=i){d0 d1:D}{L:List D}{k t b:Int}{d j l P S X F V:D}{a:Addr}{SS PS m:List D}(u:lf d=false)
 (v:f [.lst L,.int k]=some (.val (.tup [d,j,l])))(w:L2.atI L k=some (.obj a [P,S,X,.tup [.int t,.int b]]))(z:g [.int t,.int b]=some (.val F))(A:lf F=true)(B:h [.tup [d,j,l]]=some (.new SS))(C:lfL SS=true)
 (E:∀n o,ev Γ (.comp (.var 1) (.tup [1,2]) (.seqV 7) 3 [] .non) [some d0,some d1,some (.lst L),some (.int k),some (.tup [d,j,l]),some (.tup [.int t,.int b]),some F,some (.lst SS),n,o]=some (.new PS))
 (G:∀n o,ev Γ (.comp (.var 2) (.tup [1,2]) (.seqV 7) 3 [] .non) [some d0,some d1,some (.lst L),some (.int k),some (.tup [d,j,l]),some (.tup [.int t,.int b]),some F,some (.lst SS),n,o]=some (.new m))
 (H:lfL PS=true)(I:lfL m=true)(J:i [d,j,F]=some (.val V)):
  exs Γ o_fit.2.2 (rFs d0 d1 (.lst L) (.int k) 6)=some (.rt (.val (.tup [F,V,.lst PS,.lst m]))):=by
 have e:rFs d0 d1 (.lst L) (.int k) 6=[~~~d0,~~~d1,~~~.lst L,~~~.int k,none,none,none,none,none,none]:=rfl;have K:frz [~~~d0,~~~d1,~~~.lst L,~~~.int k,none,none,none,none,none,none]=[~~~d0,~~~d1,~~~.lst L,~~~.int k,none,none,none,none,none,none]:=rfl;rw[e];unfold o_fit;dsimp only;clear e;walk_at "evh"
section
variable{A:Nat->Addr}{h:Nat->H3}{x:Nat->Rat}{N n:Nat}{J:Nat->Nat}
def ygw(d:∀i,Hb (h i))(f:∀i,Sz 2000 (x i))(g:n<=1000):zbr [.lst (dOs (osJ A h x n J))]=some (.val (fD (ear (clJ h x n J) n))):=by
 unfold osJ;rw[zuj];refine zou (by rw[Zd,Z8]) g (λi j=>⟨A (J i),(J i:Int),hD (h (J i)),fr (x (J i)),by rw[zdg j];rfl⟩) (λi q e=>(zfn e).1) (λi q e=>?_);obtain⟨l,m⟩:=yem (d _) (d _) (d _) (f _) (f _) (f _) e
 exact⟨Zf l (Bo vA),Zf m (Bo vA)⟩
def zvw{c:Nat->D}{k:Nat}(d:k<n)(n2:2<=n):zcf [.lst (dOs (osC A h x n J c)),.int (k:Int)]=some (.val (.tup [bD (A (J (pv n k))) (J (pv n k):Int) (h (J (pv n k))) (x (J (pv n k))) (c (pv n k)),bD (A (J k)) (J k:Int) (h (J k)) (x (J k)) (c k),bD (A (J (nx n k))) (J (nx n k):Int) (h (J (nx n k))) (x (J (nx n k))) (c (nx n k))])):=by
 rw[zuj];exact zhi (f:=λi=>bD (A (J i)) (J i:Int) (h (J i)) (x (J i)) (c i)) d n2 (.inl rfl)
def ymf(d:∀i,Hb (h i)){k:Nat}(e:k<n)(n2:2<=n):zoh [.lst (dOs (osJ A h x n J)),.int (k:Int)]=some (.val (.bl (decide (0<=crI (h (J (nx n k))) (h (J (pv n k))))))):=
 yeb (zvw e n2) (zeh ((d _).hb vA) ((d _).hb vA) ((d _).hb vA))
theorem zss(r:Γ 95=zbr)(s:Γ 96=zoh)(z:∀i,Hb (h i))(E:∀i,Sz 2000 (x i)){v H:V}(I:v≠H)(K:∀j,j<N->x j<=xr (wy (h j)) v)(u:∀j,j<N->x j<=xr (wy (h j)) H){d0 d1:D}:∀(m n:Nat) (J:Nat->Nat) (t:Rat),n<=m->n<=1000->Lst h x N n J t->(∀i j,i<n->j<n->A (J i)=A (J j)->i=j) ->
  ∃(f:Nat->List (Addr×List D)) (q:Nat->Int) (T:Nat),f 0=osJ A h x n J/\q 0=(((ear (clJ h x n J) n).getD 0:Nat):Int)/\Lps Γ Tht d0 d1 6 o_fit.1 f q T/\(∀j,j<=T->((ev Γ o_fit.2.1 (rhoB (rF d0 d1 (some (.int (q j))) 6) 2 (f j))).map W.d).bind zbt=some (decide (j<T))) /\
   f T=osJ A h x (finJ h x m n J).1 (finJ h x m n J).2.1/\q T=((finJ h x m n J).2.2:Int)
 |0,n,J,t,P,F,L,inj=>by have:=L.ok.three;omega
 |m+1,n,J,t,P,F,L,inj=>by
  obtain⟨k,p,X⟩:=L.next I K u
  have Q:=L.ok.three;have M:∀l,ev Γ o_fit.1 (rhoB (rF d0 d1 l 6) 2 (osJ A h x n J))=some (.val (.int (k:Int))):=λl=>by
   have:=ygw (A:=A) (J:=J) z E F
   rw[X.ear] at this;exact ygs r this
  have B:=fit_te (Γ:=Γ) (d0:=d0) (d1:=d1) s (ymf (A:=A) (J:=J) (x:=x) z X.lt vB);unfold finJ;simp only[X.ear,Je];by_cases C:0<=crI (h (J (nx n k))) (h (J (pv n k)))
  ·rw[if_pos C];rw[decide_eq_true C] at B;refine⟨λ_=>osJ A h x n J,λ_=>(k:Int),0,rfl,rfl,⟨λ_ _ l=>M l,λj g=>by omega,λj g=>by omega⟩,λj g=>?_,rfl,rfl⟩
   have:j=0:=by omega
   subst this;exact B
  ·rw[if_neg C];rw[decide_eq_false C] at B;obtain⟨L2,Y⟩:=X.drop L vB
   have w:∀i j,i<n-1->j<n-1->A (J (er k i))=A (J (er k j))->i=j:=λi j G g e=>by
    have:=inj _ _ (zen X.lt G) (zen X.lt g) e
    unfold er at this;split at this<;>split at this<;>omega
   obtain⟨f,q,T,O,Z,lp,R,S,U⟩:=zss r s z E I K u (d0:=d0) (d1:=d1) m (n-1) (λi=>J (er k i)) _ vB vB L2 w
   refine⟨λj=>match j with|0=>osJ A h x n J|j+1=>f j,λj=>match j with|0=>(k:Int)|j+1=>q j,T+1,rfl,rfl,⟨λj g l=>?_,λj g=>?_,λj g a o=>?_⟩,λj g=>?_,S,U⟩
   ·cases j with
    |zero=>exact M l
    |succ j=>exact lp.ke j vB l
   ·cases j with
    |zero=>
     show Tht (osJ A h x n J) (k:Int) (f 0);rw[O];exact⟨A,h,x,n,J,k,z,E,Q,F,X.lt,inj,rfl,rfl,rfl⟩
    |succ j=>exact lp.th j vB
   ·cases j with
    |zero=>
     have o:a∈(f 0).map (·.1):=o;show a∈(osJ A h x n J).map (·.1);rw[O] at o;unfold osJ osC at o;rw[Yd] at o;obtain⟨i,G,e⟩:=Z5.mp o
     rw[<-e];exact zlp (zen X.lt (W8.mp G))
    |succ j=>exact lp.sb j vB a o
   ·cases j with
    |zero=>rw[decide_eq_true (Jq T)];exact B
    |succ j=>
     have:=R j vB
     rw[show decide (j+1<T+1)=decide (j<T) from decide_eq_decide.mpr vB];exact this
end
def yan(l r:List V)(t:Rat)(v:V)(S:List (Int×Int)):Prop:=∃n J k p,finJ (hS l) (xS l r) l.length l.length (λi=>i)=(n,J,k)/\FinS (hS l) (xS l r) l.length n J k p/\t=fac p /\
 v=mt (wy (hS l (J (pv n k)))) (wy (hS l (J k))) (((hS l (J (pv n k))).2.2:Rat)-fac p*xS l r (J (pv n k))) (((hS l (J k)).2.2:Rat)-fac p*xS l r (J k)) /\
 ssK (shK (J (pv n k):Nat) (J k:Nat) (J (nx n k):Nat) (crI (hS l (J k)) (hS l (J (nx n k)))) (crI (hS l (J (nx n k))) (hS l (J (pv n k)))) (crI (hS l (J (pv n k))) (hS l (J k)))
   (gc (gc (gc 0 (crI (hS l (J k)) (hS l (J (nx n k))))) (crI (hS l (J (nx n k))) (hS l (J (pv n k))))) (crI (hS l (J (pv n k))) (hS l (J k)))))=S.map toL/\Cert (hS l) (xS l r) l.length (fac p) S
def fit_is{l r:List V}(T:TwoS l r):∃t v S,yan l r t v S:=by
 obtain⟨p,F⟩:=ylm T.hl T.hr
 obtain⟨S,d,e⟩:=ymu F T.hb
 exact⟨_,_,S,_,_,_,p,rfl,F,rfl,rfl,d,e⟩
def fitD(t:Rat)(v:V)(S:List (Int×Int)):W:=.val (.tup [fr t,stD v,.lst (S.map λe=>.int e.1),.lst (S.map λe=>.int e.2)])
def zzi{S:List (Int×Int)}{d:Rho}{e:E}{f:Int×Int->D}(i:S.length<=1000)(g:varD d 7=some (.lst (S.map λe=>dK (toL e))))(h:∀p∈S,zwh Γ e (.tup [1,2]) 3 [] .non d (dK (toL p))=some (some (f p))):ev Γ (.comp e (.tup [1,2]) (.seqV 7) 3 [] .non) d=some (.new (S.map f)):=by
 rw[zqu,zsu,g];show(if _ then _ else none)=_;rw[if_pos ⟨by rw[Zd,Jb];omega,rfl⟩,zjj h];rfl
theorem zma{d:Type}(f:d->Int):∀S:List d,lfL (S.map λe=>D.int (f e))=true
 |[]=>rfl
 |a::S=>zma f S
theorem zyd:∀S:List (Int×Int),lfL (S.map λe=>dK (toL e))=true
 |[]=>rfl
 |a::S=>zyd S
def ylj(s:Γ 95=zbr)(H:Γ 96=zoh)(K:Γ 92=zcf)(h1:Γ 1=zct)(u:Γ 126=zgb)(L:Γ 98=zdt){l r:List V}(T:TwoS l r){t:Rat}{v:V}{S:List (Int×Int)}(I:yan l r t v S):
  ztm Γ Xi Tht 6 o_fit.1 o_fit.2.1 o_fit.2.2 (.lst (l.map stD)) (.lst (r.map stD)) (fitD t v S):=by
 obtain⟨n,J,k,p,en,F,rfl,rfl,es,ce⟩:=I
 have fl:=T.fl;have M:=T.hl.three;have r3:=T.hr.three;have w:0<r.length:=by omega
 have B:∀g:List (Addr×List D),g.map (·.2)=lsS l r (λi=>clD (clJ (hS l) (xS l r) l.length (λi=>i) i))->(g.map (·.1)).Nodup->∃A:Nat->Addr,g=osJ A (hS l) (xS l r) l.length (λi=>i)/\∀i j,i<l.length->j<l.length->A i=A j->i=j:=λg e C=>by
  have ln:(g.map (·.1)).length=l.length:=by
   have:=congrArg List.length e
   unfold lsS at this;rw[Zd,Zd,Z8] at this;rw[Zd];exact this
  obtain⟨a0,_⟩:∃a,(g.map (·.1))[0]? = some a:=⟨(g.map (·.1))[0]'vB,Zh _⟩
  refine⟨λi=>(g.map (·.1)).getD i a0,os_eq ?_ ?_,λi j hi hj z=>zsm C vB vB z⟩
  ·unfold osJ osC;rw[Yd,<-ln];exact rng_getD.symm
  ·rw[e];unfold osJ osC lsS;rw[Yd];rfl
 have E:∀q,q∈r->∀j,j<l.length->xS l r j<=xr (wy (hS l j)) q:=λq hq j _=>(zjb w _).1 q hq
 refine⟨_,(((ear (clJ (hS l) (xS l r) l.length λi=>i) l.length).getD 0:Nat):Int),⟨l,r,T.toBd2,rfl,rfl,rfl⟩,λg e C=>?_,λg e C=>?_⟩
 ·obtain⟨A,N,inj⟩:=B g e C
  subst N;have:=ygw (A:=A) (n:=l.length) (J:=λi=>i) T.hb T.sx vB
  obtain⟨k',p',X⟩:=(zxx T.hl (xS l r)).next (znt (nodup T.hr) vB 0) (E _ (zar w _)) (E _ (zar w _))
  rw[X.ear] at this |-;exact ygs s this
 ·obtain⟨A,N,inj⟩:=B g e C
  subst N;obtain⟨O,ks,Tn,o0,k0,lp,ts,oT,kT⟩:=zss (Γ:=Γ) (A:=A) (d0:=.lst (l.map stD)) (d1:=.lst (r.map stD)) s H T.hb T.sx (znt (nodup T.hr) vB 0) (E _ (zar w _)) (E _ (zar w _)) l.length l.length (λi=>i) 0 (Zk _) vB (zxx T.hl (xS l r)) inj
  refine⟨O,ks,Tn,o0,k0,lp,ts,?_⟩
  rw[oT,kT,en];dsimp only;have d:=T.hb;have G:=T.ss;have o:=F.lt;have n3:=F.three;obtain⟨z1,z2⟩:=zzo (d _) (d _) (d _) (G _) (G _) (G _) F.cl
  have pos:=F.bot;have m:∀i j,i<n->j<n->i≠j->J i≠J j:=λi j hi hj ne=>by
   rcases Yf i j with z|z
   ·have:=F.mono i j z hj;omega
   ·have:=F.mono j i vB hi;omega
  have P:(J (pv n k):Int)≠(J k:Int):=λz=>m _ _ (zfa o) o (by unfold pv;split<;>omega) vB
  have Q:(J (pv n k):Int)≠(J (nx n k):Int):=λz=>m _ _ (zfa o) (zha o) (zll n3 o) vB
  have R:(J k:Int)≠(J (nx n k):Int):=λz=>m _ _ o (zha o) (by unfold nx;split<;>omega) vB
  have c0:=zay (d (J k)) (d (J (nx n k)));have c2:=zay (d (J (pv n k))) (d (J k));have gp:gc (gc (gc 0 (crI (hS l (J k)) (hS l (J (nx n k))))) (crI (hS l (J (nx n k))) (hS l (J (pv n k))))) (crI (hS l (J (pv n k))) (hS l (J k)))≠0:=by
   have:=zdm (a:=gc (gc 0 (crI (hS l (J k)) (hS l (J (nx n k))))) (crI (hS l (J (nx n k))) (hS l (J (pv n k))))) (b:=crI (hS l (J (pv n k))) (hS l (J k))) (by have:=F.w2;omega)
   omega
  have gb:(gc (gc (gc 0 (crI (hS l (J k)) (hS l (J (nx n k))))) (crI (hS l (J (nx n k))) (hS l (J (pv n k))))) (crI (hS l (J (pv n k))) (hS l (J k)))).natAbs<2^181:=Yw (zuu (by have:=F.w2;omega)) c2;have sh:=zua (a0:=A (J (pv n k))) (a1:=A (J k)) (a2:=A (J (nx n k))) (x0:=xS l r (J (pv n k))) (x1:=xS l r (J k)) (x2:=xS l r (J (nx n k))) (c0:=clD (clJ (hS l) (xS l r) n J (pv n k))) (c1:=clD (clJ (hS l) (xS l r) n J k)) (c2:=clD (clJ (hS l) (xS l r) n J (nx n k))) ((d (J (pv n k))).hb vA) ((d (J k)).hb vA) ((d (J (nx n k))).hb vA) P Q R (zbf gp gb vA);rw[es,Yd] at sh;have U:Sz 420 (fac p):=ygt pos z1 z2;have ex:∀i,Sz 190 (xS l r i):=λi=>(G i).sz vA vA
  have cz:∀i,Sz 150 ((hS l i).2.2:Rat):=λi=>zax (d i).c vA
  have W:=zqk (a:=A (J (pv n k))) (a':=A (J k)) (p:=(J (pv n k):Int)) (p':=(J k:Int)) (cl:=clD (clJ (hS l) (xS l r) n J (pv n k))) (cl':=clD (clJ (hS l) (xS l r) n J k)) ((d (J (pv n k))).hb vA) ((d (J k)).hb vA) (U.mono vA) ((ex (J (pv n k))).mono vA) ((ex (J k)).mono vA) (by have:=F.w2;omega)
   (((cz (J (pv n k))).sub (U.mul (ex (J (pv n k))))).mono vA) (((cz (J k)).sub (U.mul (ex (J k)))).mono vA)
  have sl:S.length<=1000:=by rcases ce.len with z|z<;>omega
  have ra:zct [.int p.1,.int p.2]=some (.val (fr (fac p))):=by
   rw[ygu];exact ydb vB (Zf z2 (Bo vA))
  have Y:L2.atI (dOs (osJ A (hS l) (xS l r) n J)) (k:Int)=some (.obj (A (J k)) [.int (J k:Int),hD (hS l (J k)),fr (xS l r (J k)),.tup [.int p.1,.int p.2]]):=by
   unfold osJ;rw[zuj,zgj (f:=λi=>bD (A (J i)) (J i:Int) (hS l (J i)) (xS l r (J i)) (clD (clJ (hS l) (xS l r) n J i))) o (.inl rfl),F.cl];rfl
  have tl:=ydx (Γ:=Γ) (d0:=.lst (l.map stD)) (d1:=.lst (r.map stD)) K h1 u L rfl (zvw (A:=A) (h:=hS l) (x:=xS l r) (J:=J) (c:=λi=>clD (clJ (hS l) (xS l r) n J i)) o vB) Y ra rfl sh (zyd S)
   (λx8 x9=>zzi (f:=λe=>.int e.1) sl rfl λe he=>by rfl) (λx8 x9=>zzi (f:=λe=>.int e.2) sl rfl λe he=>by rfl) (zma _ S) (zma _ S) W
  rw[show osJ A (hS l) (xS l r) n J=osC A (hS l) (xS l r) n J λi=>clD (clJ (hS l) (xS l r) n J i) from rfl];rw[tl];have Z:((((hS l (J k)).2.1:Rat)*(((hS l (J (pv n k))).2.2:Rat)-fac p*xS l r (J (pv n k)))-((hS l (J (pv n k))).2.1:Rat)*(((hS l (J k)).2.2:Rat)-fac p*xS l r (J k)))/((crI (hS l (J (pv n k))) (hS l (J k)):Int):Rat),(((hS l (J (pv n k))).1:Rat)*(((hS l (J k)).2.2:Rat)-fac p*xS l r (J k))-((hS l (J k)).1:Rat)*(((hS l (J (pv n k))).2.2:Rat)-fac p*xS l r (J (pv n k))))/((crI (hS l (J (pv n k))) (hS l (J k)):Int):Rat))=mt (wy (hS l (J (pv n k)))) (wy (hS l (J k))) (((hS l (J (pv n k))).2.2:Rat)-fac p*xS l r (J (pv n k))) (((hS l (J k)).2.2:Rat)-fac p*xS l r (J k)):=by
   unfold Fi.mt;rw[zet,Kl,Kl];unfold wy;exact Wx (by dsimp only;grind) (by dsimp only;grind)
  unfold fitD;rw[<-Z]
def ygr{x y:Rat}(h:fr x=fr y):x=y:=by
 unfold fr at h;have d:x.num=y.num:=by injection h with h;injection h with h _;injection h
 have e:(x.den:Int)=(y.den:Int):=by injection h with h;injection h with _ h;injection h with h _;injection h
 exact Rat.ext d vB
def yib{p q:V}(h:stD p=stD q):p=q:=by
 unfold stD at h;have d:fr p.1=fr q.1:=by injection h with h;injection h
 have e:fr p.2=fr q.2:=by injection h with h;injection h with _ h;injection h
 exact Wx (ygr d) (ygr e)
theorem zem:∀{l m:List V},l.map stD=m.map stD->l=m
 |[],[],_=>rfl
 |[],_::_,h=>by cases h
 |_::_,[],h=>by cases h
 |a::l,b::m,h=>by
  rw[Zz,Zz] at h;injection h with d e
  rw[yib d,zem e]
def FitAt(d:List D)(w:W):Prop:=∃l r t v S,TwoS l r/\yan l r t v S/\d=[.lst (l.map stD),.lst (r.map stD)]/\w=fitD t v S
open Classical in
def mFit(d:List D):Option W:=if h:∃w,FitAt d w then some h.choose else none
def ylk(g:Γ 95=zbr)(i:Γ 96=zoh)(j:Γ 92=zcf)(q:Γ 1=zct)(d:Γ 126=zgb)(m:Γ 98=zdt):∀n d1 o,mFit [n,d1]=some o->ztm Γ Xi Tht 6 o_fit.1 o_fit.2.1 o_fit.2.2 n d1 o:=λn d1 o h=>by
 unfold mFit at h;split at h
 ·next z=>
  obtain⟨l,r,t,v,S,T,I,e,s⟩:=z.choose_spec
  have f:=Z0 h;rw[s] at f;subst f;injection e with u p
  injection p with p _
  rw[u,p];exact ylj g i j q d m T I
 ·cases h
def yll{l r:List V}(T:TwoS l r):∃t v S,yan l r t v S/\mFit [.lst (l.map stD),.lst (r.map stD)]=some (fitD t v S):=by
 obtain⟨t,v,S,I⟩:=fit_is T
 have ex:∃w,FitAt [.lst (l.map stD),.lst (r.map stD)] w:=⟨_,l,r,t,v,S,T,I,rfl,rfl⟩;unfold mFit;rw[dif_pos ex];obtain⟨n,o,g,h,i,p,j,e,m⟩:=ex.choose_spec
 injection e with f d
 injection d with d _
 injection f with f
 injection d with d
 have:=zem f
 have:=zem d
 subst_vars
 exact⟨g,h,i,j,by rw[m]⟩
end
open Sf
open Mg Fi PySem
section
variable{Γ:Nat->∅}
def neg_fr(x:Rat):D.tup [.int (0-x.num),.int (x.den:Int)]=fr (-x):=by
 show D.tup [.int (0-x.num),.int (x.den:Int)]=D.tup [.int (-x.num),.int (x.den:Int)];rw[Int.zero_sub]
def zku{x y:Rat}{m n:Nat}(d:Sz m x)(e:Sz n y)(f:m<=4400)(g:n<=4400):Bt [fr x,.tup [.int (0-y.num),.int (y.den:Int)]]=some (.val (fr (x-y))):=by
 rw[neg_fr,Ke];exact zal (Bw d e.neg f g)
def zok{x y:Rat}{m n:Nat}(d:Sz m x)(e:Sz n y)(f:m<=4400)(g:n<=4400):Bt [fr x,fr y]=some (.val (fr (x+y))):=zal (Bw d e f g)
def zee{x y:Rat}{m n:Nat}(d:Sz m x)(e:Sz n y)(f:m<=4400)(g:n<=4400):Bq [fr x,fr y]=some (.val (fr (x*y))):=zal (Bw d e f g)
def zsc(i:Int):D.tup [.int i,.int 1]=fr (i:Rat):=by
 unfold fr;rw[Rat.num_intCast,Rat.den_intCast];rfl
abbrev zch:List (Nat×(∅)):=[(108,Bt),(74,Bq)]
def zdk:∅:=run (tab zch) zaa 9
def zoc(e:Γ 108=Bt)(g:Γ 74=Bq):∀d w,d.length=3->zdk d=some w->run Γ zaa 9 d=some w:=λd w _ h=>zbx zch (by
 intro p f;simp only[zch,Zg,Zn,or_false] at f;rcases f with rfl|rfl<;>assumption) vA d w h
def yau(d:Γ 108=Bt)(e:Γ 74=Bq){n1 d1 n2 d2 p q u v:Int}{B1 B2 C1 C2 X1 X2 X3 X4:D}(l1:lf X1=true)(l2:lf X2=true)(f:lf X3=true)(g:lf X4=true)
 (h:Bt [B1,.tup [.int (0-n1),.int d1]]=some (.val X1))(i:Bt [B2,.tup [.int (0-n2),.int d2]]=some (.val X2))(j:Bt [C1,.tup [.int (0-n1),.int d1]]=some (.val X3))(l:Bt [C2,.tup [.int (0-n2),.int d2]]=some (.val X4))
 (m:Bq [X1,X4]=some (.val (.tup [.int p,.int q])))(n:Bq [X2,X3]=some (.val (.tup [.int u,.int v])))(o1:Bn p v=true)(o2:Bn u q=true):
  run Γ zaa 9 [.tup [.tup [.int n1,.int d1],.tup [.int n2,.int d2]],.tup [B1,B2],.tup [C1,C2]]=some (.val (.int (p*v-u*q))):=by
 unfold zaa;walk_at "evh"
def yaw{a b c:V}(d:Sz 62 a.1/\Sz 62 a.2)(f:Sz 62 b.1/\Sz 62 b.2)(g:Sz 2400 c.1/\Sz 2400 c.2):∃s:Int,zdk [stD a,stD b,stD c]=some (.val (.int s))/\(s<0↔oR a b c<0):=by
 have i:=f.1.sub d.1;have j:=f.2.sub d.2;have l:=g.1.sub d.1;have m:=g.2.sub d.2;have n:=(i.mul m).mono (show 62+62+1+(2400+62+1)<=3000 by decide);have o:=(j.mul l).mono (show 62+62+1+(2400+62+1)<=3000 by decide);refine⟨_,yau (Γ:=tab zch) rfl rfl (n1:=a.1.num) (d1:=a.1.den) (n2:=a.2.num) (d2:=a.2.den) (B1:=fr b.1) (B2:=fr b.2) (C1:=fr c.1) (C2:=fr c.2) (X1:=fr (b.1-a.1)) (X2:=fr (b.2-a.2)) (X3:=fr (c.1-a.1)) (X4:=fr (c.2-a.2)) rfl rfl rfl rfl
  (zku f.1 d.1 vA vA) (zku f.2 d.2 vA vA) (zku g.1 d.1 vA vA) (zku g.2 d.2 vA vA) (zee i m vA vA) (zee j l vA vA)
  (Bj n.t o.b vA vA) (Bj o.t n.b vA vA),?_⟩
 have e:oR a b c=(b.1-a.1)*(c.2-a.2)-(b.2-a.2)*(c.1-a.1):=rfl;rw[e];generalize (b.1-a.1)*(c.2-a.2)=L at *;generalize (b.2-a.2)*(c.1-a.1)=R at *;have:L-R<0↔L<R:=by constructor<;>intro h<;>grind
 rw[this,Rat.lt_iff];omega
def ziz:∅:=run (tab [(45,zdk)]) zcv 3
def ok_law_held(e:Γ 45=zdk):∀d w,d.length=2->ziz d=some w->run Γ zcv 3 d=some w:=λd w _ h=>zbx [(45,zdk)] (λp f=>by
 simp only[Zg,Zn,or_false] at f;subst f;exact e) vA d w h
abbrev zth:Ss:=#v[.iff (.cmp .lt (.call 45 #v[.ix (.var 0) (.bin .sub (.var 2) (.int 1)),.ix (.var 0) (.var 2),.var 1]) (.int 0)) #v[.ret (.bl false)] .nil]
def zyn(d:Γ 45=zdk){L:List D}{c a b:D}{k s:Int}(e:L2.atI L (k-1)=some a)(f:L2.atI L k=some b)(q:zdk [a,b,c]=some (.val (.int s)))(g:decide (s<0)=false):
  exs Γ zth [~~~.lst L,~~~c,~~~.int k]=some (.nx [~~~.lst L,~~~c,~~~.int k]):=by
 walk_at "evh"
def zlz{l:List V}:l.map stD=(List.range l.length).map λi=>stD (rnd l i):=by
 apply Qc
 intro i;by_cases h:i<l.length
 ·rw[zdg h,Zi,Zh h];unfold rnd;rw[Zt h,Zx,Zh h];rfl
 ·rw[Yp (by rw[Zd];omega),Yp (by rw[Zd,Z8];omega)]
def ydr{l:List V}{c:V}(g:0<l.length)(t:l.length<=1000)(h:SzL 62 l)(p:Sz 2400 c.1/\Sz 2400 c.2)(q:∀i,i<l.length->0<=oR (rnd l i) (rnd l (i+1)) c):ziz [.lst (l.map stD),stD c]=some (.val (.bl true)):=by
 unfold ziz;generalize d:tab [(45,zdk)]=Γ;have m:Γ 45=zdk:=by rw[<-d];rfl
 obtain⟨u,e,n,rfl⟩:=zdv (bt:=Bv (.name 2)) (fb:=exs Γ zth) (I:=λk r=>∃n,r=[~~~.lst (l.map stD),~~~stD c,n]) l.length [~~~.lst (l.map stD),~~~stD c,none] ⟨none,rfl⟩ (λj r o ⟨n,e⟩=>by
  subst e;have v:L2.atI (l.map stD) ((j:Int)-1)=some (stD (rnd l (pv l.length j))):=by
   rw[zlz];refine zgj (f:=λi=>stD (rnd l i)) (zfa o) ?_;unfold pv;split<;>omega
  have w:L2.atI (l.map stD) (j:Int)=some (stD (rnd l j)):=by
   rw[zlz];exact zgj (f:=λi=>stD (rnd l i)) o (.inl rfl)
  obtain⟨s,A,B⟩:=yaw (h _ (zar g (pv l.length j))) (h _ (zar g j)) p
  have D:rnd l (pv l.length j+1)=rnd l j:=by
   unfold pv;split
   ·next z=>rw[z,show l.length-1+1=0+l.length by omega,zwr]
   ·next z=>rw[show j-1+1=j by omega]
  have:=q (pv l.length j) (zfa o)
  rw[D] at this;exact⟨_,_,rfl,zyn m v w A (decide_eq_false (λz=>by have:=B.mp z;grind)),_,rfl⟩)
 have E:((l.map stD).length:Int)=(l.length:Int):=by rw[Zd]
 have F : -4611686018427387904<=(l.length:Int)/\(l.length:Int)<4611686018427387904:=⟨by omega,by omega⟩;have G:((l.length:Int)).toNat=l.length:=Z1 _;unfold zcv;generalize l.map stD=L at *;generalize stD c=C at *;clear q p h t g d;walk_at "evh"
def zdl:∅:=run (tab zch) zag 7
def zls(e:Γ 108=Bt)(g:Γ 74=Bq):∀d w,d.length=3->zdl d=some w->run Γ zag 7 d=some w:=λd w _ h=>zbx zch (by
 intro p f;simp only[zch,Zg,Zn,or_false] at f;rcases f with rfl|rfl<;>assumption) vA d w h
abbrev zow:Ss:=#v[.asg 6 (.call 108 #v[.call 74 #v[.var 4,.var 1],.ix (.var 2) (.int 0)]),.app 3 (.tup #v[.var 6,.call 108 #v[.call 74 #v[.var 5,.var 1],.ix (.var 2) (.int 1)]])]
def zuk(h:Γ 108=Bt)(l:Γ 74=Bq){S F e f X Y i j d g:D}{M:List D}{m:Option B}(n:lf d=true)(o:lf g=true)(p:Bq [X,F]=some (.val i))(q:Bq [Y,F]=some (.val j))(r:Bt [i,e]=some (.val d))(s:Bt [j,f]=some (.val g))(t:(M.length<PySem.sizeLine)=True):
  exs Γ zow [~~~S,~~~F,~~~.tup [e,f],some (.ow M),~~~X,~~~Y,m]=some (.nx [~~~S,~~~F,~~~.tup [e,f],some (.ow (M++[.tup [d,g]])),~~~X,~~~Y,~~~d]):=by
 walk_at "evh"
def mvR(t:Rat)(v q:V):V:=(q.1*t+v.1,q.2*t+v.2)
def zxs{r:List V}{t:Rat}{v:V}(C:r.length<=1000)(u:SzL 62 r)(h:Sz 420 t)(m:Sz 1900 v.1/\Sz 1900 v.2):zdl [.lst (r.map stD),fr t,stD v]=some (.new (r.map λq=>stD (mvR t v q))):=by
 unfold zdl;generalize g:tab zch=Γ;have i:Γ 108=Bt:=by rw[<-g];rfl
 have n:Γ 74=Bq:=by rw[<-g];rfl
 have J:(1000:Nat)<=PySem.sizeLine:=by decide
 obtain⟨D,f,o,p,l,rfl⟩:=zjh (bt:=Bv (.tup [4,5])) (fb:=exs Γ zow) (I:=λj w=>∃o p l,w=[~~~.lst (r.map stD),~~~fr t,~~~stD v,some (.ow ((r.take j).map λq=>stD (mvR t v q))),o,p,l]) (r.map stD) 0 [~~~.lst (r.map stD),~~~fr t,~~~stD v,some (.ow []),none,none,none] ⟨none,none,none,rfl⟩ λj d w z E=>by
  obtain⟨o,p,l,rfl⟩:=E
  rw[Zi] at z;obtain⟨q,s,e⟩:=Zb.mp z
  subst e;obtain⟨A,B⟩:=u q (Yg s)
  have G:=A.mul h;have H:=B.mul h;refine⟨[~~~.lst (r.map stD),~~~fr t,~~~stD v,some (.ow ((r.take (0+j)).map λq=>stD (mvR t v q))),~~~fr q.1,~~~fr q.2,l],_,rfl,zuk i n rfl rfl (zee A h vA vA) (zee B h vA vA) (zok G m.1 vA vA) (zok H m.2 vA vA) (eq_true ?_),~~~fr q.1,~~~fr q.2,~~~fr (q.1*t+v.1),?_⟩
  ·have:=(Zo.mp s).1
   rw[Zd,Wb];omega
  ·rw[Wo,Q4,s,Yl];rfl
 rw[Wo,Zd,Q9] at f;unfold zag;generalize r.map (λq=>stD (mvR t v q))=O at *;generalize r.map stD=L at *;generalize stD v=V at *;generalize fr t=F at *;clear u h m C g;walk_at "evh"
def zgm:∅:=run (tab [(14,zfi)]) zau 1
def ziu(e:Γ 14=zfi):∀d w,d.length=1->zgm d=some w->run Γ zau 1 d=some w:=λd w _ h=>zbx [(14,zfi)] (λp f=>by
 simp only[Zg,Zn,or_false] at f;subst f;exact e) vA d w h
def zyh{x:Rat}:zfi [fr x]=some (.val (.bl true)):=by
 unfold zfi;simp only[yak]
def ybp{v:V}:zgm [stD v]=some (.val (.bl true)):=by
 unfold zgm;generalize d:tab [(14,zfi)]=Γ;have e:Γ 14=zfi:=by rw[<-d];rfl
 have f:=zyh (x:=v.1);have g:=zyh (x:=v.2);unfold zau stD;generalize fr v.1=X at *;generalize fr v.2=Y at *;clear d;walk_at "evh"
end
open Sf
open Mg Fi PySem
section
variable{Γ:Nat->∅}
abbrev ybm:List (Nat×(∅)):=[(108,Bt),(74,Bq),(12,Bs)]
def zcm:∅:=run (tab ybm) zbo 11
def zlq(e:Γ 108=Bt)(g:Γ 74=Bq)(i:Γ 12=Bs):∀d w,d.length=1->zcm d=some w->run Γ zbo 11 d=some w:=λd w _ h=>zbx ybm (by
 intro p f;simp only[ybm,Zg,Zn,or_false] at f;rcases f with rfl|rfl|rfl<;>assumption) vA d w h
abbrev yhb:Ss:=#v[.asg 3 (.ix (.var 0) (.var 2)),.asg 4 (.ix (.var 0) (.bin .mod (.bin .add (.var 2) (.int 1)) (.bi .len #v[.var 0]))),.asg 5 (.call 108 #v[.ix (.var 4) (.int 0),.tup #v[.bin .sub (.int 0) (.ix (.ix (.var 3) (.int 0)) (.int 0)),.ix (.ix (.var 3) (.int 0)) (.int 1)]]),.asg 6 (.call 108 #v[.ix (.var 4) (.int 1),.tup #v[.bin .sub (.int 0) (.ix (.ix (.var 3) (.int 1)) (.int 0)),.ix (.ix (.var 3) (.int 1)) (.int 1)]]),.asg 7 (.bin .sub (.int 0) (.bin .mul (.ix (.var 6) (.int 0)) (.ix (.var 5) (.int 1)))),.asg 8 (.bin .mul (.ix (.var 5) (.int 0)) (.ix (.var 6) (.int 1))),.asg 9 (.call 12 #v[.var 7,.var 8]),.asg 7 (.bin .fdiv (.var 7) (.var 9)),.asg 8 (.bin .fdiv (.var 8) (.var 9)),.asg 10 (.call 108 #v[.call 74 #v[.tup #v[.var 7,.int 1],.ix (.var 3) (.int 0)],.call 74 #v[.tup #v[.var 8,.int 1],.ix (.var 3) (.int 1)]]),.app 1 (.tup #v[.bin .mul (.var 7) (.ix (.var 10) (.int 1)),.bin .mul (.var 8) (.ix (.var 10) (.int 1)),.ix (.var 10) (.int 0)])]
def denb{x:Rat}{n:Nat}(h:Sz n x):((x.den:Int)).natAbs<2^n:=h.b
def ykp(l:Γ 108=Bt)(q:Γ 74=Bq)(r:Γ 12=Bs){L M:List D}{k N n1 d1 n2 d2 e f g h m a b i d:Int}{B1 B2 n o:D}{x3 x4 x5 x6 x7 x8 x9 x10:Option DL.B}(s:lf B1=true)(t:lf B2=true)(F:(L.length:Int)=N)(p:0<N)(G:(N=0)=False)
 (H:L2.atI L k=some (.tup [.tup [.int n1,.int d1],.tup [.int n2,.int d2]]))(I:L2.atI L ((k+1)%N)=some (.tup [B1,B2]))
 (J:Bt [B1,.tup [.int (0-n1),.int d1]]=some (.val (.tup [.int e,.int f])))(K:Bt [B2,.tup [.int (0-n2),.int d2]]=some (.val (.tup [.int g,.int h])))
 (o1:Bn g f=true)(o2:Bn e h=true)(O:Bs [.int (0-g*f),.int (e*h)]=some (.val (.int m)))(o3:zbm m=true)(P:(0-g*f).fdiv m=a)(Q:(e*h).fdiv m=b)
 (R:Bq [.tup [.int a,.int 1],.tup [.int n1,.int d1]]=some (.val n))(S:Bq [.tup [.int b,.int 1],.tup [.int n2,.int d2]]=some (.val o))(T:Bt [n,o]=some (.val (.tup [.int i,.int d])))(o4:Bn a d=true)(U:Bn b d=true)(V:(M.length<PySem.sizeLine)=True):
  ∃u v w z A C E j,exs Γ yhb [~~~.lst L,some (.ow M),~~~.int k,x3,x4,x5,x6,x7,x8,x9,x10]=some (.nx [~~~.lst L,some (.ow (M++[.tup [.int (a*d),.int (b*d),.int i]])),~~~.int k,u,v,w,z,A,C,E,j]):=by
 have W:=zbz (a:=k+1) p;refine⟨~~~.tup [.tup [.int n1,.int d1],.tup [.int n2,.int d2]],~~~.tup [B1,B2],~~~.tup [.int e,.int f],~~~.tup [.int g,.int h],~~~.int a,~~~.int b,~~~.int m,~~~.tup [.int i,.int d],?_⟩
 clear p;walk_at "evh"
def ls_int{l:List V}(H:IsShp l)(fl:l.length<=1000)(J:SzL 62 l):zcm [.lst (l.map stD)]=some (.new ((zbj l).map hD)):=by
 have n:=H.three;have u:0<l.length:=by omega
 unfold zcm;generalize h:tab ybm=Γ;have p:Γ 108=Bt:=by rw[<-h];rfl
 have K:Γ 74=Bq:=by rw[<-h];rfl
 have P:Γ 12=Bs:=by rw[<-h];rfl
 have sz:(1000:Nat)<=PySem.sizeLine:=by decide
 have Q:((l.map stD).length:Int)=(l.length:Int):=by rw[Zd]
 obtain⟨a3,e,R,v,w,A,B,C,D,E,m,rfl⟩:=zdv (bt:=Bv (.name 2)) (fb:=exs Γ yhb) (I:=λk ρ=>∃R v w A B C D E m,ρ=[~~~.lst (l.map stD),some (.ow ((List.range k).map λi=>hD (hS l i))),R,v,w,A,B,C,D,E,m]) l.length [~~~.lst (l.map stD),some (.ow []),none,none,none,none,none,none,none,none,none] ⟨none,none,none,none,none,none,none,none,none,rfl⟩ (λj ρ hj ⟨R,v,w,A,B,C,D,E,m,e⟩=>by
  subst e;have a1:L2.atI (l.map stD) (j:Int)=some (stD (rnd l j)):=by
   rw[zlz];exact zgj (f:=λi=>stD (rnd l i)) hj (.inl rfl)
  have a2:L2.atI (l.map stD) (((j:Int)+1)%(l.length:Int))=some (stD (rnd l (j+1))):=by
   have e:rnd l (j+1)=rnd l ((j+1)%l.length):=by unfold rnd;rw[Gk]
   rw[e,zlz];refine zgj (f:=λi=>stD (rnd l i)) (Qp _ u) (.inl ?_);rw[show((j:Int)+1)=((j+1:Nat):Int) from rfl,<-Int.natCast_emod]
  obtain⟨o,q⟩:=J _ (zar u j)
  obtain⟨y1,y2⟩:=J _ (zar u (j+1))
  obtain⟨S,T⟩:=ydk (znt (nodup H) vB j) rfl rfl rfl rfl rfl rfl
  have r:=y1.sub o;have s:=y2.sub q;have U:(0-((rnd l (j+1)).2-(rnd l j).2).num*(((rnd l (j+1)).1-(rnd l j).1).den:Int)).natAbs<2^250:=by
   rw[Int.zero_sub,Kq];exact bd2 s.t (denb r)
  have W:(((rnd l (j+1)).1-(rnd l j).1).num*(((rnd l (j+1)).2-(rnd l j).2).den:Int)).natAbs<2^250:=bd2 r.t (denb s);have X:zdf (rnd l j) (rnd l (j+1))=hS l j:=rfl;rw[X] at T;obtain⟨d,F⟩:∃d,d=0-((rnd l (j+1)).2-(rnd l j).2).num*(((rnd l (j+1)).1-(rnd l j).1).den:Int):=⟨_,rfl⟩
  obtain⟨g,G⟩:∃g,g=((rnd l (j+1)).1-(rnd l j).1).num*(((rnd l (j+1)).2-(rnd l j).2).den:Int):=⟨_,rfl⟩
  rw[<-F,<-G] at S T;rw[<-F] at U;rw[<-G] at W;have gb:(gc d g).natAbs<2^250:=by
   by_cases z:g=0
   ·have o:d≠0:=λy=>S (by rw[y,z];rfl)
    have:gc d g=gc g d:=by unfold gc;rw[K9]
    rw[this];exact Yw (zuu o) U
   ·exact Yw (zuu z) W
  have ba:(d.fdiv (gc d g)).natAbs<2^250:=zge (Wl _ _) U;have bb:(g.fdiv (gc d g)).natAbs<2^250:=zge (Y0 _ _) W;generalize ga:d.fdiv (gc d g)=a at *;generalize Y:g.fdiv (gc d g)=b at *;have Z:=zax ba vA;have sb:=zax bb vA;have t1:=zee (x:=(a:Rat)) Z o vA vA;have t2:=zee (x:=(b:Rat)) sb q vA vA;rw[<-zsc] at t1 t2;have t3:=zok (Z.mul o) (sb.mul q) vA vA;have cz:=(Z.mul o).add (sb.mul q);obtain⟨y3,y4,y5,y6,y7,y8,y9,a0,st⟩:=ykp (Γ:=Γ) p K P (L:=l.map stD) (M:=(List.range j).map λi=>hD (hS l i)) (k:=(j:Int)) (N:=(l.length:Int)) (x3:=v) (x4:=w) (x5:=A) (x6:=B) (x7:=C) (x8:=D) (x9:=E) (x10:=m) (B1:=fr (rnd l (j+1)).1) (B2:=fr (rnd l (j+1)).2) rfl rfl Q vB (eq_false vB) a1 a2
   (zku y1 o vA vA) (zku y2 q vA vA) (Bj s.t r.b vA vA) (Bj r.t s.b vA vA) (by rw[<-F,<-G];exact zat) (zbf S gb vA) (by rw[<-F];exact ga) (by rw[<-G];exact Y) t1 t2 t3
   (Bj ba cz.b vA vA) (Bj bb cz.b vA vA) (eq_true (by rw[Zd,Z8];omega))
  have e9:hD (hS l j)=.tup [.int (a*((((a:Rat)*(rnd l j).1+(b:Rat)*(rnd l j).2).den:Nat):Int)),.int (b*((((a:Rat)*(rnd l j).1+(b:Rat)*(rnd l j).2).den:Nat):Int)),.int ((a:Rat)*(rnd l j).1+(b:Rat)*(rnd l j).2).num]:=by rw[<-T];rfl
  refine⟨_,_,rfl,st,~~~.int (j:Int),y3,y4,y5,y6,y7,y8,y9,a0,?_⟩
  rw[List.range_succ,Yl,<-e9];rfl)
 have r : -4611686018427387904<=(l.length:Int)/\(l.length:Int)<4611686018427387904:=⟨by omega,by omega⟩;have s:((l.length:Int)).toNat=l.length:=Z1 _;have e3:(zbj l).map hD=(List.range l.length).map λi=>hD (hS l i):=by rw[znk,Yd];rfl
 rw[e3];unfold zbo;generalize l.map stD=L at *;generalize ((List.range l.length).map λi=>hD (hS l i))=O at *;clear J H u n h e3 fl;walk_at "evh"
abbrev ybn:List (Nat×(∅)):=[(108,Bt),(74,Bq),(110,zfh)]
def zcn:∅:=run (tab ybn) zah 7
def zlu(e:Γ 108=Bt)(i:Γ 74=Bq)(f:Γ 110=zfh):∀d w,d.length=3->zcn d=some w->run Γ zah 7 d=some w:=λd w _ h=>zbx ybn (by
 intro p g;simp only[ybn,Zg,Zn,or_false] at g;rcases g with rfl|rfl|rfl<;>assumption) vA d w h
abbrev ztg:Ss:=#v[.asg 6 (.call 108 #v[.call 74 #v[.tup #v[.var 1,.int 1],.var 4],.call 74 #v[.tup #v[.var 2,.int 1],.var 5]]),.iff (.or (.cmp .isN (.var 3) .non) (.call 110 #v[.var 6,.var 3])) #v[.asg 3 (.var 6)] .nil]
def ydh(d:Γ 108=Bt)(g:Γ 74=Bq){S X Y e f O:D}{a b:Int}{h:Option DL.B}(i:lf O=true)(j:Bq [.tup [.int a,.int 1],X]=some (.val e))(l:Bq [.tup [.int b,.int 1],Y]=some (.val f))(m:Bt [e,f]=some (.val O)):
  exs Γ ztg [~~~S,~~~.int a,~~~.int b,~~~.non,~~~X,~~~Y,h]=some (.nx [~~~S,~~~.int a,~~~.int b,~~~O,~~~X,~~~Y,~~~O]):=by
 walk_at "evh"
def ykr(d:Γ 108=Bt)(h:Γ 74=Bq)(e:Γ 110=zfh){S X Y f g O:D}{FL:List D}{a b:Int}{c:Bool}{i:Option DL.B}(j:lf O=true)(l:lfL FL=true)(m:Bq [.tup [.int a,.int 1],X]=some (.val f))(n:Bq [.tup [.int b,.int 1],Y]=some (.val g))(o:Bt [f,g]=some (.val O))(p:zfh [O,.tup FL]=some (.val (.bl c))):
  exs Γ ztg [~~~S,~~~.int a,~~~.int b,~~~.tup FL,~~~X,~~~Y,i]=some (.nx [~~~S,~~~.int a,~~~.int b,~~~(if c=true then O else .tup FL),~~~X,~~~Y,~~~O]):=by
 cases c
 ·walk_at "evh"
 ·walk_at "evh"
def frO:Option Rat->D
 |none=>.non
 |some x=>fr x
def LeB(h:H3)(r:List V)(j:Nat):Option Rat->Prop
 |none=>j=0
 |some m=>(∀q∈r.take j,m<=xr (wy h) q)/\∃q∈r.take j,m=xr (wy h) q
def ll_int{r:List V}{h:H3}(M:0<r.length)(S:r.length<=1000)(F:Hb h)(w:SzL 80 r):zcn [.lst (r.map stD),.int h.1,.int h.2.1]=some (.val (fr (lwS r h))):=by
 unfold zcn;generalize i:tab ybn=Γ;have n:Γ 108=Bt:=by rw[<-i];rfl
 have t:Γ 74=Bq:=by rw[<-i];rfl
 have u:Γ 110=zfh:=by rw[<-i];rfl
 have A:Sz 90 (h.1:Rat):=zax F.a vA;have B:Sz 90 (h.2.1:Rat):=zax F.b vA;have G:∀q∈r,Sz 400 (xr (wy h) q):=λq o=>by
  rw[zkl];exact((A.mul (w q o).1).add (B.mul (w q o).2)).mono vA
 obtain⟨T,f,m,C,D,s,p,rfl⟩:=zjh (bt:=Bv (.tup [4,5])) (fb:=exs Γ ztg) (I:=λj N=>∃m C D s,LeB h r j m/\N=[~~~.lst (r.map stD),~~~.int h.1,~~~.int h.2.1,~~~frO m,C,D,s]) (r.map stD) 0 [~~~.lst (r.map stD),~~~.int h.1,~~~.int h.2.1,~~~.non,none,none,none] ⟨none,none,none,none,rfl,rfl⟩ λj d N O U=>by
  obtain⟨m,C,D,s,p,rfl⟩:=U
  rw[Zi] at O;obtain⟨q,o,e⟩:=Zb.mp O
  subst e;have v:=Yg o;obtain⟨P,Q⟩:=w q v
  have H:=zee (x:=(h.1:Rat)) A P vA vA;have J:=zee (x:=(h.2.1:Rat)) B Q vA vA;rw[<-zsc] at H J;have t3:=zok (A.mul P) (B.mul Q) vA vA;rw[<-zkl] at t3;have R:r.take (0+j+1)=r.take (0+j)++[q]:=by rw[Wo,Q4,o];rfl
  cases m with
  |none=>
   refine⟨[~~~.lst (r.map stD),~~~.int h.1,~~~.int h.2.1,~~~.non,~~~fr q.1,~~~fr q.2,s],_,rfl,ydh n t rfl H J t3,some (xr (wy h) q),_,_,_,?_,rfl⟩
   have W:0+j=0:=p;have K:r.take (0+j+1)=[q]:=by rw[R,W];rfl
   show(∀z∈r.take (0+j+1),xr (wy h) q<=xr (wy h) z)/\∃z∈r.take (0+j+1),xr (wy h) q=xr (wy h) z;rw[K];refine⟨λz g=>?_,q,Zs.mpr rfl,rfl⟩
   rw[Zs.mp g];exact Kk
  |some m=>
   obtain⟨l1,E,l,l2⟩:=p
   have Y:Sz 400 m:=by rw[l2];exact G E (List.mem_of_mem_take l)
   have Z:zfh [fr (xr (wy h) q),fr m]=some (.val (.bl (decide (xr (wy h) q<m)))):=zal (Bw (G q v) Y vA vA);refine⟨[~~~.lst (r.map stD),~~~.int h.1,~~~.int h.2.1,~~~fr m,~~~fr q.1,~~~fr q.2,s],_,rfl,ykr (FL:=[.int m.num,.int (m.den:Int)]) n t u rfl rfl H J t3 Z,some (if xr (wy h) q<m then xr (wy h) q else m),~~~fr q.1,~~~fr q.2,~~~fr (xr (wy h) q),?_,?_⟩
   ·show(∀z∈r.take (0+j+1),(if xr (wy h) q<m then xr (wy h) q else m)<=xr (wy h) z)/\∃z∈r.take (0+j+1),(if xr (wy h) q<m then xr (wy h) q else m)=xr (wy h) z;rw[R];by_cases c:xr (wy h) q<m
    ·rw[if_pos c];refine⟨λz g=>?_,q,Yh.mpr (.inr (Zs.mpr rfl)),rfl⟩
     rcases Yh.mp g with y|y
     ·exact K6 (Ye c) (l1 z y)
     ·rw[Zs.mp y];exact Kk
    ·rw[if_neg c];refine⟨λz g=>?_,E,Yh.mpr (.inl l),l2⟩
     rcases Yh.mp g with y|y
     ·exact l1 z y
     ·rw[Zs.mp y];exact Rat.not_lt.mp c
   ·by_cases c:xr (wy h) q<m
    ·rw[decide_eq_true c,if_pos rfl,if_pos c];rfl
    ·rw[decide_eq_false c,if_neg vA,if_neg c];rfl
 rw[Wo,Zd] at p;have em:m=some (lwS r h):=by
  cases m with
  |none=>have:r.length=0:=p;omega
  |some m=>
   obtain⟨l1,q,o,l2⟩:=p
   rw[Q9] at l1 o;obtain⟨k1,E,l,k2⟩:=zjb M h
   have a:=l1 E l;have b:=k1 q o;rw[<-k2] at a;rw[<-l2] at b;congr 1
   grind
 rw[em] at f;have f':forN (Bv (.tup [4,5])) (exs Γ ztg) (r.map stD) [~~~.lst (r.map stD),~~~.int h.1,~~~.int h.2.1,~~~.non,none,none,none]=some (.nx [~~~.lst (r.map stD),~~~.int h.1,~~~.int h.2.1,~~~fr (lwS r h),C,D,s]):=f;clear f em p;unfold zah;have lX:=zyc (lwS r h);generalize fr (lwS r h)=X at *;generalize r.map stD=L at *;clear w F A B G S M i;walk_at "evh"
end
open Sf
open Mg Fi PySem
section
variable{Γ:Nat->∅}
abbrev ybl:List (Nat×(∅)):=[(128,zcm),(3,zfc),(108,Bt),(74,Bq),(84,zcn)]
def ziy:∅:=run (tab ybl) zbp 13
def ok_law_paper(e:Γ 128=zcm)(l:Γ 3=zfc)(f:Γ 108=Bt)(i:Γ 74=Bq)(j:Γ 84=zcn):∀d w,d.length=3->ziy d=some w->run Γ zbp 13 d=some w:=λd w _ h=>zbx ybl (by
 intro p g;simp only[ybl,Zg,Zn,or_false] at g;rcases g with rfl|rfl|rfl|rfl|rfl<;>assumption) vA d w h
abbrev yhc:Ss:=#v[.seti 8 (.var 12) (.bin .add (.ix (.var 8) (.var 12)) (.bin .mul (.ix (.var 6) (.var 10)) (.ix (.var 11) (.var 12))))]
def zqo{f g h i l m:D}{P p d S:List D}{k j w s c:Int}{e:List D}{n:Nat}(q:L2.atI d k=some (.int w))(r:L2.atI S j=some (.int s))(t:L2.atI e j=some (.int c))(u:L2.ixN S.length j=some n)(o:Bn w c=true):
  exs Γ yhc [~~~f,~~~g,~~~h,~~~i,~~~l,~~~.lst P,~~~.lst d,some (.ow p),some (.ow S),~~~m,~~~.int k,~~~.tup e,~~~.int j] =
   some (.nx [~~~f,~~~g,~~~h,~~~i,~~~l,~~~.lst P,~~~.lst d,some (.ow p),some (.ow (S.set n (.int (s+w*c)))),~~~m,~~~.int k,~~~.tup e,~~~.int j]):=by
 walk_at "evh"
def ylb{A0 A1 A2 A3 A4 P9:D}{P W7 h:List D}{k w s0 s1 s2 d f g:Int}{x12:Option DL.B}(i:L2.atI h k=some (.int w))(j:Bn w d=true)(o1:Bn w f=true)(o2:Bn w g=true):
  forN (Bv (.name 12)) (exs Γ yhc) (B8 0 3) [~~~A0,~~~A1,~~~A2,~~~A3,~~~A4,~~~.lst P,~~~.lst h,some (.ow W7),some (.ow [.int s0,.int s1,.int s2]),~~~P9,~~~.int k,~~~.tup [.int d,.int f,.int g],x12] =
   some (.nx [~~~A0,~~~A1,~~~A2,~~~A3,~~~A4,~~~.lst P,~~~.lst h,some (.ow W7),some (.ow [.int (s0+w*d),.int (s1+w*f),.int (s2+w*g)]),~~~P9,~~~.int k,~~~.tup [.int d,.int f,.int g],~~~.int 2]):=by
 have e:B8 0 3=[.int 0,.int 1,.int 2]:=rfl;rw[e,zbs rfl (zqo (n:=0) i rfl rfl rfl j),zbs rfl (zqo (n:=1) i rfl rfl rfl o1),zbs rfl (zqo (n:=2) i rfl rfl rfl o2)];rfl
abbrev zzx:Ss:=#v[.iff (.or (.not (.call 3 #v[.ix (.var 5) (.var 10)])) (.or (.not (.call 3 #v[.ix (.var 6) (.var 10)])) (.cmp .lt (.ix (.var 6) (.var 10)) (.int 1)))) #v[.ret (.bl false)] .nil,.iff (.or (.cmp .lt (.ix (.var 5) (.var 10)) (.int 0)) (.or (.cmp .ge (.ix (.var 5) (.var 10)) (.bi .len #v[.var 7])) (.and (.cmp .gt (.var 10) (.int 0)) (.cmp .ge (.ix (.var 5) (.bin .sub (.var 10) (.int 1))) (.ix (.var 5) (.var 10)))))) #v[.ret (.bl false)] .nil,.asg 11 (.ix (.var 7) (.ix (.var 5) (.var 10))),.frr (.name 12) (.range1 (.int 3)) #v[.seti 8 (.var 12) (.bin .add (.ix (.var 8) (.var 12)) (.bin .mul (.ix (.var 6) (.var 10)) (.ix (.var 11) (.var 12))))],.asg 9 (.call 108 #v[.var 9,.call 74 #v[.tup #v[.ix (.var 6) (.var 10),.int 1],.call 84 #v[.var 2,.ix (.var 11) (.int 0),.ix (.var 11) (.int 1)]]])]
def yjr(L:Γ 3=zfc)(E:Γ 108=Bt)(G:Γ 74=Bq)(H:Γ 84=zcn){m n j o q r d LE F:D}{P e s:List D}{k N p w t u v f h l:Int}{z i:Option DL.B}{g:Bool}(M:lf d=true)
 (O:L2.atI P k=some (.int p))(I:L2.atI s k=some (.int w))(Q:(w<1)=False)(R:(p<0)=False)(S:(e.length:Int)=N)(T:(N<=p)=False)(U:decide (0<k)=g)(A:g=true->∃C,L2.atI P (k-1)=some (.int C)/\(p<=C)=False)
 (J:L2.atI e p=some (.tup [.int f,.int h,.int l]))(K:Bn w f=true)(o1:Bn w h=true)(o2:Bn w l=true)(V:zcn [j,.int f,.int h]=some (.val LE))(W:Bq [.tup [.int w,.int 1],LE]=some (.val F))(X:Bt [r,F]=some (.val d)):
  exs Γ zzx [~~~m,~~~n,~~~j,~~~o,~~~q,~~~.lst P,~~~.lst s,some (.ow e),some (.ow [.int t,.int u,.int v]),~~~r,~~~.int k,z,i] =
   some (.nx [~~~m,~~~n,~~~j,~~~o,~~~q,~~~.lst P,~~~.lst s,some (.ow e),some (.ow [.int (t+w*f),.int (u+w*h),.int (v+w*l)]),~~~d,~~~.int k,~~~.tup [.int f,.int h,.int l],~~~.int 2]):=by
 have Y:=@zse;have Z:=ylb (Γ:=Γ) (A0:=m) (A1:=n) (A2:=j) (A3:=o) (A4:=q) (P9:=r) (P:=P) (W7:=e) (s0:=t) (s1:=u) (s2:=v) (x12:=i) I K o1 o2;cases g
 ·clear A;walk_at "evh"
 ·obtain⟨C,e1,e2⟩:=A rfl
  clear A;walk_at "evh"
def pa_run(o:Γ 128=zcm)(p:Γ 74=Bq){F V e f X9:D}{P d g:List D}{n s2:Int}{m:Nat}{i j l:Option DL.B}{R:D}(r:lfL g=true)(s:(P.length:Int)=n)(t:(d.length:Int)=n)(h:n.toNat=m)(q:n=2\/n=3)
 (u:zcm [e]=some (.new g))(v:forN (Bv (.name 10)) (exs Γ zzx) (B8 0 m) [~~~.tup [F,V,.lst P,.lst d],~~~e,~~~f,~~~F,~~~V,~~~.lst P,~~~.lst d,some (.ow g),some (.ow [.int 0,.int 0,.int 0]),~~~.tup [.int 0,.int 1],none,none,none] =
   some (.nx [~~~.tup [F,V,.lst P,.lst d],~~~e,~~~f,~~~F,~~~V,~~~.lst P,~~~.lst d,some (.ow g),some (.ow [.int 0,.int 0,.int s2]),~~~X9,i,j,l]))
 (w:Bq [F,X9]=some (.val R))(z:cmpD .eq R (.tup [.int s2,.int 1])=some true):
  run Γ zbp 13 [.tup [F,V,.lst P,.lst d],e,f]=some (.val (.bl true)):=by
 have A:frz [~~~.tup [F,V,.lst P,.lst d],~~~e,~~~f,none,none,none,none,none,none,none,none,none,none]=[~~~.tup [F,V,.lst P,.lst d],~~~e,~~~f,none,none,none,none,none,none,none,none,none,none]:=rfl;have C:([D.int 2,D.int 3].any λy=>eqD y (.int 2))=true:=rfl;have E:([D.int 2,D.int 3].any λy=>eqD y (.int 3))=true:=rfl;unfold zbp;rcases q with rfl|rfl
 ·obtain rfl:m=2:=by rw[<-h];rfl
  clear h;walk_at "evh"
 ·obtain rfl:m=3:=by rw[<-h];rfl
  clear h;walk_at "evh"
def sumT{d:Type}{f:d->Int}{S:List d}{j:Nat}{e:d}(h:S[j]? = some e):((S.take (j+1)).map f).sum=((S.take j).map f).sum+f e:=by
 rw[Q4,h,Yl,U0];simp
def sumTR{d:Type}{f:d->Rat}{S:List d}{j:Nat}{e:d}(h:S[j]? = some e):((S.take (j+1)).map f).sum=((S.take j).map f).sum+f e:=by
 rw[Q4,h,Yl,U0];simp only[Option.toList_some,Zz,Wy,Wf,Ko];grind
def zxk{l r:List V}(T:TwoS l r)(Z:SzL 62 l){t:Rat}{v:V}{S:List (Int×Int)}(ht:Sz 420 t)(C:Cert (hS l) (xS l r) l.length t S):ziy [.tup [fr t,stD v,.lst (S.map λe=>.int e.1),.lst (S.map λe=>.int e.2)],.lst (l.map stD),.lst (r.map stD)]=some (.val (.bl true)):=by
 have hn:(S.length:Int)=2\/(S.length:Int)=3:=by rcases C.len with z|z<;>omega
 have fl:=T.fl;have a0:=T.fr;have zr:SzL 80 r:=T.zs.sz vA vA;have lW:lfL ((zbj l).map hD)=true:=by
  rw[znk,Yd];generalize List.range l.length=L;induction L with
  |nil=>rfl
  |cons a L ih=>exact ih
 unfold ziy;generalize d:tab ybl=Γ;have u:Γ 128=zcm:=by rw[<-d];rfl
 have h3:Γ 3=zfc:=by rw[<-d];rfl
 have w:Γ 108=Bt:=by rw[<-d];rfl
 have A:Γ 74=Bq:=by rw[<-d];rfl
 have G:Γ 84=zcn:=by rw[<-d];rfl
 obtain⟨a1,f,i,o,q,B,rfl⟩:=zdv (bt:=Bv (.name 10)) (fb:=exs Γ zzx) (I:=λj U=>∃i o q,Sz (1+400*j) ((S.take j).map λe=>(e.2:Rat)*xS l r e.1.toNat).sum/\U=[~~~(.tup [fr t,stD v,.lst (S.map λe=>.int e.1),.lst (S.map λe=>.int e.2)]),~~~.lst (l.map stD),~~~.lst (r.map stD),~~~fr t,~~~stD v,~~~(.lst (S.map λe=>.int e.1)),~~~(.lst (S.map λe=>.int e.2)),some (.ow ((zbj l).map hD)),
   some (.ow [.int ((S.take j).map λe=>e.2*(hS l e.1.toNat).1).sum,.int ((S.take j).map λe=>e.2*(hS l e.1.toNat).2.1).sum,.int ((S.take j).map λe=>e.2*(hS l e.1.toNat).2.2).sum]),~~~(fr ((S.take j).map λe=>(e.2:Rat)*xS l r e.1.toNat).sum),i,o,q]) S.length
  [~~~(.tup [fr t,stD v,.lst (S.map λe=>.int e.1),.lst (S.map λe=>.int e.2)]),~~~.lst (l.map stD),~~~.lst (r.map stD),~~~fr t,~~~stD v,~~~(.lst (S.map λe=>.int e.1)),~~~(.lst (S.map λe=>.int e.2)),some (.ow ((zbj l).map hD)),some (.ow [.int 0,.int 0,.int 0]),~~~.tup [.int 0,.int 1],none,none,none]
  ⟨none,none,none,by rw[List.take_zero];exact(show Sz 1 (0:Rat) from⟨by decide,by decide⟩),by rw[List.take_zero];rfl⟩ (λj U H ⟨i,o,q,B,e⟩=>by
   subst e;have s:S[j]? = some S[j]:=Zh H;obtain⟨p,J,e2,e3,E⟩:=C.ok S[j] (Ka H)
   have j3:j<3:=by rcases C.len with z|z<;>omega
   have W:(S[j].1).toNat=p:=by rw[J];exact Z1 p
   have F:=T.hb p;have ll:=ll_int (r:=r) (h:=hS l p) T.pr vB F zr;have K:Sz 190 (xS l r p):=(T.ss p).sz vA vA;have M:Sz 181 ((S[j].2:Int):Rat):=zax E vA;have Y:=zee M K vA vA;rw[<-zsc] at Y;have t3:=zok B (M.mul K) vB vA;have ap:L2.atI (S.map λe=>D.int e.1) (j:Int)=some (.int (p:Int)):=zjv (by rw[Zi,s,<-J];rfl);have aw:L2.atI (S.map λe=>D.int e.2) (j:Int)=some (.int S[j].2):=zjv (by rw[Zi,s];rfl);have O:L2.atI ((zbj l).map hD) (p:Int)=some (.tup [.int (hS l p).1,.int (hS l p).2.1,.int (hS l p).2.2]):=zjv (by rw[Zi,zfx e2];rfl);refine⟨_,_,rfl,yjr (g:=decide (0<(j:Int))) h3 w A G rfl ap aw (eq_false vB) (eq_false vB) (N:=(l.length:Int)) (by rw[Zd,zfw]) (eq_false vB) rfl (λhg=>?_) O (Bj E F.a vA vA) (Bj E F.b vA vA) (Bj E F.c vA vA) ll Y t3,~~~.int (j:Int),~~~.tup [.int (hS l p).1,.int (hS l p).2.1,.int (hS l p).2.2],~~~.int 2,?_,?_⟩
   ·have j0:0<j:=by have:=of_decide_eq_true hg;omega
    have P:S[j-1]? = some S[j-1]:=Zh vB;refine⟨S[j-1].1,?_,eq_false ?_⟩
    ·rw[show(j:Int)-1=((j-1:Nat):Int) by omega];exact zjv (by rw[Zi,P];rfl)
    ·have:=Wg.mp C.srt (j-1) j vB H vB
     rw[J] at this;omega
   ·rw[sumTR s,W];exact(B.add (M.mul K)).mono vB
   ·rw[sumT s,sumT s,sumT s,sumTR s,W])
 rw[Q9,C.sa,C.sb] at f;rw[Q9] at B;have sc:=C.sc;generalize (S.map λe=>e.2*(hS l e.1.toNat).2.2).sum=s2 at *;generalize (S.map λe=>(e.2:Rat)*xS l r e.1.toNat).sum=X at *;have Q:Sz 1300 X:=B.mono (by rcases C.len with z|z<;>omega);refine pa_run (Γ:=Γ) u A (s2:=s2) (X9:=fr X) (R:=fr (t*X)) (n:=(S.length:Int)) (m:=S.length) lW (by rw[Zd]) (by rw[Zd]) (Z1 _) hn (ls_int T.hl vB Z) f (zee ht Q vA vA) ?_;rw[zsc,fr_eqd,decide_eq_true];exact sc.symm
end
open Sf
open Mg Fi PySem
section
variable{Γ:Nat->∅}
abbrev zra:Ss:=#v[.iff (.not (.call 112 #v[.var 2,.var 6])) #v[.ret (.bl false)] .nil]
def ydm(e:Γ 112=ziz){f g d h i j M:D}(q:ziz [d,M]=some (.val (.bl true))):
  exs Γ zra [~~~f,~~~g,~~~d,~~~h,~~~i,~~~j,~~~M]=some (.nx [~~~f,~~~g,~~~d,~~~h,~~~i,~~~j,~~~M]):=by
 walk_at "evh"
theorem zsi(d:Γ 112=ziz){A0 A1 A2 A3 A4 A5:D}:∀(M:List D) (f:Option DL.B),(∀m∈M,ziz [A2,m]=some (.val (.bl true))) ->
  ∃g,forN (Bv (.name 6)) (exs Γ zra) M [~~~A0,~~~A1,~~~A2,~~~A3,~~~A4,~~~A5,f]=some (.nx [~~~A0,~~~A1,~~~A2,~~~A3,~~~A4,~~~A5,g])
 |[],f,_=>⟨f,rfl⟩
 |m::M,f,h=>by
  obtain⟨y,e⟩:=zsi d (A0:=A0) (A1:=A1) (A2:=A2) (A3:=A3) (A4:=A4) (A5:=A5) M (~~~m) (λz i=>h z (.tail _ i))
  exact⟨y,by rw[zbs rfl (ydm d (h m (.head _)))];exact e⟩
def ykw(i:Γ 102=zda)(q:Γ 47=zcz)(j:Γ 125=mFit)(r:Γ 14=zfi)(l:Γ 114=zgm)(m:Γ 113=zdl)(o:Γ 112=ziz)(p:Γ 130=ziy){f V:D}{e h L R M PS g:List D}{n d:Int}{s:Option DL.B}
 (t:zda [f,.int 16]=some (.new e))(u:lfL e=true)(v:zcz [.lst e]=some (.new L))(w:lfL L=true)(ct:cutD e (some 8) none=h)(z:zcz [.lst h]=some (.new R))(A:lfL R=true)
 (C:mFit [.lst L,.lst R]=some (.val (.tup [.tup [.int n,.int d],V,.lst PS,.lst g])))(E:cmpD .ne (.lst [.lst L,.lst R]) (.lst [.lst L,.lst R])=some false)
 (F:zfi [.tup [.int n,.int d]]=some (.val (.bl true)))(G:decide (n<=0)=false)(H:zgm [V]=some (.val (.bl true)))(I:zdl [.lst R,.tup [.int n,.int d],V]=some (.new M))(J:lfL M=true)
 (K:forN (Bv (.name 6)) (exs Γ zra) M [~~~f,~~~.lst e,~~~.lst L,~~~.lst R,~~~.lst [.lst L,.lst R],~~~.tup [.tup [.int n,.int d],V,.lst PS,.lst g],none]=some (.nx [~~~f,~~~.lst e,~~~.lst L,~~~.lst R,~~~.lst [.lst L,.lst R],~~~.tup [.tup [.int n,.int d],V,.lst PS,.lst g],s]))
 (N:ziy [.tup [.tup [.int n,.int d],V,.lst PS,.lst g],.lst L,.lst R]=some (.val (.bl true))):
  run Γ zbv 7 [f]=some (.val (.bl true)):=by
 have O:frz [~~~f,some (.ow e),some (.ow L),some (.ow R),none,none,none]=[~~~f,~~~.lst e,~~~.lst L,~~~.lst R,none,none,none]:=rfl;have P:frz [~~~f,~~~.lst e,~~~.lst L,~~~.lst R,some (.ow [.lst L,.lst R]),none,none]=[~~~f,~~~.lst e,~~~.lst L,~~~.lst R,~~~.lst [.lst L,.lst R],none,none]:=rfl;have Q:frz [~~~f,~~~.lst e,~~~.lst L,~~~.lst R,~~~.lst [.lst L,.lst R],~~~.tup [.tup [.int n,.int d],V,.lst PS,.lst g],none]=[~~~f,~~~.lst e,~~~.lst L,~~~.lst R,~~~.lst [.lst L,.lst R],~~~.tup [.tup [.int n,.int d],V,.lst PS,.lst g],none]:=rfl;unfold zbv;walk_at "evh"
def cut_is{d:List Int}{k:Nat}(h:k<=d.length):cutD (d.map D.int) (some (k:Int)) none=(d.drop k).map D.int:=by
 rw[zzh (by rw[Zd];exact h),Vo]
def Sh5.two{l r:List V}(a:Sh5 l)(b:Sh5 r):TwoS l r:=TwoS.mk' a.shp b.shp (a.sy.sz vA vA) (λi=>hS_hb (by have:=a.shp.three;omega) a.sy i) (λq d=>⟨(b.sy q d).1.mono vA vA,(b.sy q d).2.mono vA vA⟩) (by have:=a.few;omega) (by have:=b.few;omega)
def fitv{l r:List V}(T:TwoS l r){t:Rat}{v:V}{S:List (Int×Int)}(I:yan l r t v S):0<t/\Sz 420 t/\(Sz 1900 v.1/\Sz 1900 v.2)/\(∀j,j<l.length->(((hS l j).2.2:Int):Rat)-t*xS l r j<=xr (wy (hS l j)) v)/\Cert (hS l) (xS l r) l.length t S:=by
 obtain⟨n,J,k,p,A,F,rfl,rfl,B,q⟩:=I
 have d:=T.hb;have e:=T.ss;obtain⟨s,u⟩:=zzo (d _) (d _) (d _) (e _) (e _) (e _) F.cl
 have f:=ygt F.bot s u;refine⟨F.fac,f,?_,F.keep,q⟩
 have ex:∀i,Sz 190 (xS l r i):=λi=>(e i).sz vA vA
 have w:∀i,Sz 150 ((hS l i).2.2:Rat):=λi=>zax (d i).c vA
 have ee:∀i,Sz 765 (((hS l i).2.2:Rat)-fac p*xS l r i):=λi=>((w i).sub (f.mul (ex i))).mono vA
 have g:∀i,Sz 90 ((hS l i).1:Rat):=λi=>zax (d i).a vA
 have h:∀i,Sz 90 ((hS l i).2.1:Rat):=λi=>zax (d i).b vA
 have m:Sz 181 ((crI (hS l (J (pv n k))) (hS l (J k)):Int):Rat):=zax (zay (d _) (d _)) vA;have o:((crI (hS l (J (pv n k))) (hS l (J k)):Int):Rat)≠0:=λz=>by
  have:=Qk.mp z
  have:=F.w2
  omega
 unfold Fi.mt;rw[zet];dsimp only;refine⟨?_,?_⟩
 ·rw[<-Kl];exact((((ee _).mul (h _)).sub ((ee _).mul (h _))).div m o).mono vA
 ·rw[<-Kl];exact((((ee _).mul (g _).neg).sub ((ee _).mul (g _).neg)).div m o).mono vA
def numP{x:Rat}(h:0<x):0<x.num:=by
 have:(0:Rat)<((x.num:Int):Rat):=by rw[zgl];exact Z6 h (zdh x)
 rw[show(0:Rat)=((0:Int):Rat) from rfl,Z9] at this;exact this
def law41(f:Γ 102=zda)(w:Γ 47=zcz)(g:Γ 125=mFit)(A:Γ 14=zfi)(h:Γ 114=zgm)(j:Γ 113=zdl)(d:Γ 112=ziz)(n:Γ 130=ziy)(s:List Int)(N:s.length<=63):run Γ zbv 7 [.lst (s.map .int)]=some (.val (.bl true)):=by
 obtain⟨o,hl,hb,C⟩:=zqh s N 16 vA vA
 rw[show((16:Nat):Int)=16 from rfl] at C;obtain⟨l,E,O⟩:=zkr (hs:=o) vB
 obtain⟨r,F,P⟩:=zkr (hs:=o.drop 8) (by rw[Yo];omega)
 have T:=E.two F;obtain⟨t,v,S,I,Q⟩:=yll T
 obtain⟨G,u,B,R,U⟩:=fitv T I
 have H:SzL 62 l:=E.sy.sz vA vA;have J:SzL 62 r:=F.sy.sz vA vA;have fl:=T.fl;have W:=T.fr;have X:=zxs (r:=r) (t:=t) (v:=v) vB J u B;have Y:cutD (o.map D.int) (some 8) none=(o.drop 8).map D.int:=cut_is (k:=8) vB;have p:∀m∈r.map (λq=>stD (mvR t v q)),ziz [.lst (l.map stD),m]=some (.val (.bl true)):=λm Z=>by
  obtain⟨q,K,e⟩:=Z5.mp Z
  rw[<-e];obtain⟨z1,z2⟩:=J q K
  refine ydr T.pl vB H ⟨((z1.mul u).add B.1).mono vA,((z2.mul u).add B.2).mono vA⟩ λi hi=>?_;exact yky T.hl G (R i hi) ((zjb T.pr _).1 q K)
 obtain⟨y6,hf⟩:=zsi (Γ:=Γ) d (A0:=.lst (s.map .int)) (A1:=.lst (o.map D.int)) (A2:=.lst (l.map stD)) (A3:=.lst (r.map stD)) (A4:=.lst [.lst (l.map stD),.lst (r.map stD)]) (A5:=.tup [fr t,stD v,.lst (S.map λe=>.int e.1),.lst (S.map λe=>.int e.2)]) _ none p
 have L:∀l:List V,dOkL 48 (l.map stD)=true:=λl=>by
  induction l with
  |nil=>rfl
  |cons a l ih=>show(dOk 48 (stD a) && dOkL 48 (l.map stD))=true;rw[ih];rfl
 have ne:cmpD .ne (.lst [.lst (l.map stD),.lst (r.map stD)]) (.lst [.lst (l.map stD),.lst (r.map stD)])=some false:=by
  have M:dOkL 49 [.lst (l.map stD),.lst (r.map stD)]=true:=by
   show(dOkL 48 (l.map stD) && (dOkL 48 (r.map stD) && true))=true;rw[L,L];rfl
  have d2:eqL [D.lst (l.map stD),.lst (r.map stD)] [.lst (l.map stD),.lst (r.map stD)]=true:=eqL_self 49 _ M;rw[ygz,M,if_pos (show(true && true)=true from rfl),d2];rfl
 have n0:decide (t.num<=0)=false:=decide_eq_false (λz=>by
  have:=numP G
  omega)
 have lM:lfL (r.map λq=>stD (mvR t v q))=true:=by
  have:=zjd (r.map (mvR t v))
  rw[Yd] at this;exact this
 exact ykw (Γ:=Γ) f w g A h j d n C (zqm _) O (zjd _) Y P (zjd _) Q ne zyh n0 ybp X lM hf (zxk T H u U)
end
open Sf
open Mg Fi PySem L2
section
variable{Γ:Nat->∅}
theorem yfc:∀d w,zgn d=some w->zbk d=some w
 |[],w,h=>by cases h
 |[_],w,h=>by cases h
 |[a,b],w,h=>ok_below [a,b] w rfl h
 |_::_::_::_,w,h=>by cases h
def ok_reachR(g:Γ 50=zed)(i:Γ 21=zbk):∀d w,d.length=3->zfg d=some w->run Γ zgh 6 d=some w:=λd w _ h=>by
 have l:∀f d w,tab zhk f d=some w->Γ f d=some w:=λf d w q=>by
  by_cases e:f=50
  ·subst e;rw[g];exact q
  ·by_cases j:f=21
   ·subst j;rw[i];exact yfc d w q
   ·unfold zhk at q;rw[tab_s e,tab_s j] at q;cases q
 unfold zfg run at h;unfold run;exact Be (λo=>exs_le l zgh _ o vA) (λ_ _ z=>z) h
def ok_law_bows_k32:∀d w,d.length=1->zhd d=some w->run Γ zap 5 d=some w:=zqg
def ok_law_ring_k31(d:Γ 105=zhd):∀e w,e.length=1->zff e=some w->run Γ zao 7 e=some w:=zoe d
def ok_law_shape_k31(e:Γ 46=zff)(d:Γ 103=zhc):∀f w,f.length=1->zcz f=some w->run Γ zaf 10 f=some w:=zlr e d
def ok_law_times_k31(d:Γ 103=zhc):∀e w,e.length=2->Bq e=some w->run Γ zas 2 e=some w:=zod d
def ok_law_moved_k41(d:Γ 108=Bt)(e:Γ 74=Bq):∀f w,f.length=3->zdl f=some w->run Γ zag 7 f=some w:=zls d e
def ok_law_turn_k31(d:Γ 108=Bt)(e:Γ 74=Bq):∀f w,f.length=3->zdk f=some w->run Γ zaa 9 f=some w:=zoc d e
def ok_law_is_spot(d:Γ 14=zfi):∀e w,e.length=1->zgm e=some w->run Γ zau 1 e=some w:=ziu d
def ok_law_sides(d:Γ 108=Bt)(e:Γ 74=Bq)(f:Γ 12=Bs):∀g w,g.length=1->zcm g=some w->run Γ zbo 11 g=some w:=zlq d e f
def ok_law_least_k41(d:Γ 108=Bt)(f:Γ 74=Bq)(e:Γ 110=zfh):∀g w,g.length=3->zcn g=some w->run Γ zah 7 g=some w:=zlu d f e
end
section
variable{P:Program}{w:World}{K:vE}{mg:Str->Option Value}{base:Heap}
theorem GSp.mono{j k:Nat}{x:Str}{d:Sp}(G:GSp P w K mg base j x d)(h:j<=k):GSp P w K mg base k x d:=by
 obtain⟨a,e,ps,F,f,g,i⟩:=G
 exact⟨a,e,ps,F.mono h,f,g,i⟩
theorem MkB.mono{j k:Nat}(M:MkB P w K mg base j)(h:j<=k):MkB P w K mg base k:=by
 obtain⟨C,f,d,ps,e,g,i,l,m⟩:=M.ex
 exact⟨C,f,d,ps,e,g,i,l.mono h,m⟩
def atc_mk{h:Stmt}{C f:Addr}{i:Value}{j:Option Addr}{kV e m:Value}{n:Option Addr}{d ct:Value}{g:Array (Option Value)}(a:PySem.W.nsIn K mainGlobals "Bound" = some (some (.ref C)))(o:PySem.W.findIn K (.ref C) "__init__" = some (some (.ref f)))
 (p:PySem.W.plainGet K C Str.empty=true)(q:PySem.W.hasDictIn K C=true)(r:PySem.W.plainOver K C=true)(s:PySem.W.findIn K (.ref C) "__setattr__" = some (some (.builtin "object.__setattr__")))
 (n1:PySem.W.findIn K (.ref C) "place" = some none)(n2:PySem.W.findIn K (.ref C) "side" = some none)(t:PySem.W.findIn K (.ref C) "least" = some none)(u:PySem.W.findIn K (.ref C) "closing" = some none)
 (v:PySem.W.makesIn K C=true)(w:PySem.W.isFn K (.ref f)=true)(z:PySem.W.keepIn K (.ref C)=true)
 (l:K.lookup f=some ⟨i,j,.func (PySem.W.fnOf "__init__" "Bound.__init__" (zbg h) (Bg h) (Bd h) .none kV e m n d ct),g⟩)(c:PySem.W.codeIn K d "Bound.__init__" = true)(k:PySem.W.keepIn K (.ref f)=true):AtC K h:=
 ⟨C,f,i,j,kV,e,m,n,d,ct,g,a,⟨p,q,r,s⟩,⟨n1,n2,t,u⟩,⟨v,o,w,z⟩,l,c,k⟩
end
end DL
namespace LW
open DL
def Γ:Nat->List D->Option W
 |0=>Bs
 |1=>zct
 |3=>zfc
 |9=>zhb
 |10=>zaq
 |11=>zae
 |12=>Bs
 |14=>zfi
 |20=>zlw
 |21=>zbk
 |40=>zix
 |41=>zfd
 |42=>zfe
 |43=>zql
 |45=>zdk
 |46=>zff
 |47=>zcz
 |50=>zed
 |59=>zfg
 |74=>Bq
 |81=>zcd
 |84=>zcn
 |92=>zcf
 |93=>zac
 |95=>zbr
 |96=>zoh
 |98=>zdt
 |99=>zja
 |102=>zda
 |103=>zhc
 |105=>zhd
 |108=>Bt
 |110=>zfh
 |112=>ziz
 |113=>zdl
 |114=>zgm
 |125=>mFit
 |126=>zgb
 |128=>zcm
 |130=>ziy
 |_=>λ_=>none
theorem ok_law_numbers:∀d w,d.length=2->Γ 102 d=some w->run Γ zbh 6 d=some w:=by apply DL.ok_law_numbers<;>rfl
theorem ok_law_bows_k32:∀d w,d.length=1->Γ 105 d=some w->run Γ zap 5 d=some w:=by apply DL.ok_law_bows_k32<;>rfl
theorem ok_law_ring_k31:∀d w,d.length=1->Γ 46 d=some w->run Γ zao 7 d=some w:=by apply DL.ok_law_ring_k31<;>rfl
theorem ok_law_divisor:∀d w,d.length=2->Γ 12 d=some w->run Γ zca 2 d=some w:=by apply DL.ok_law_divisor<;>rfl
theorem ok_law_fraction:∀d w,d.length=2->Γ 103 d=some w->run Γ zbq 3 d=some w:=by apply DL.ok_law_fraction<;>rfl
theorem ok_law_shape_k31:∀d w,d.length=1->Γ 47 d=some w->run Γ zaf 10 d=some w:=by apply DL.ok_law_shape_k31<;>rfl
theorem ok_cross:∀d w,d.length=2->Γ 81 d=some w->run Γ zju 2 d=some w:=by apply DL.ok_cross<;>rfl
theorem ok_weights_of:∀d w,d.length=1->Γ 93 d=some w->run Γ zbu 4 d=some w:=by apply DL.ok_weights_of<;>rfl
theorem ok_steps:∀d w,d.length=1->Γ 41 d=some w->run Γ zjs 1 d=some w:=by apply DL.ok_steps<;>rfl
theorem ok_divisor:∀d w,d.length=2->Γ 0 d=some w->run Γ zfs 5 d=some w:=by apply DL.ok_divisor<;>rfl
theorem ok_plus:∀d w,d.length=2->Γ 9 d=some w->run Γ ztk 5 d=some w:=by apply DL.ok_plus<;>rfl
theorem ok_minus:∀d w,d.length=2->Γ 10 d=some w->run Γ zmx 2 d=some w:=by apply DL.ok_minus<;>rfl
theorem ok_ratio:∀d w,d.length=2->Γ 1 d=some w->run Γ zmw 3 d=some w:=by apply DL.ok_ratio<;>rfl
theorem ok_times:∀d w,d.length=2->Γ 11 d=some w->run Γ zmv 2 d=some w:=by apply DL.ok_times<;>rfl
theorem ok_lowest_whole:∀d w,d.length=1->Γ 43 d=some w->run Γ zan 6 d=some w:=by apply DL.ok_lowest_whole<;>rfl
theorem ok_side_between:∀d w,d.length=2->Γ 42 d=some w->run Γ zaz 5 d=some w:=by apply DL.ok_side_between<;>rfl
theorem ok_sides_of:∀d w,d.length=1->Γ 40 d=some w->run Γ zcb 1 d=some w:=by apply DL.ok_sides_of<;>rfl
theorem ok_level:∀d w,d.length=3->Γ 50 d=some w->run Γ zjt 3 d=some w:=by apply DL.ok_level<;>rfl
def ok_below:∀d w,d.length=2->Γ 21 d=some w->run Γ zer 2 d=some w:=by apply DL.ok_belowR<;>rfl
def yco:∀d w,d.length=3->Γ 59 d=some w->run Γ zgh 6 d=some w:=by apply DL.ok_reachR<;>rfl
theorem ok_trio_at:∀d w,d.length=2->Γ 92 d=some w->run Γ zdp 2 d=some w:=by apply DL.ok_trio_at<;>rfl
theorem ok_earliest:∀d w,d.length=1->Γ 95 d=some w->run Γ zcx 4 d=some w:=by apply DL.ok_earliest<;>rfl
theorem ok_ends_all:∀d w,d.length=2->Γ 96 d=some w->run Γ zcw 2 d=some w:=by apply DL.ok_ends_all<;>rfl
theorem ok_shares_of:∀d w,d.length=1->Γ 126 d=some w->run Γ zbn 5 d=some w:=by apply DL.ok_shares_of<;>rfl
theorem ok_edge_by:∀d w,d.length=2->Γ 99 d=some w->run Γ zdq 2 d=some w:=by apply DL.ok_edge_by<;>rfl
theorem ok_over:∀d w,d.length=2->Γ 20 d=some w->run Γ ztl 2 d=some w:=by apply DL.ok_over<;>rfl
theorem ok_meeting:∀d w,d.length=3->Γ 98 d=some w->run Γ zcu 8 d=some w:=by apply DL.ok_meeting<;>rfl
theorem ok_law_whole:∀d w,d.length=1->Γ 3 d=some w->run Γ zdc 1 d=some w:=by apply DL.ok_law_whole<;>rfl
theorem ok_law_is_fraction:∀d w,d.length=1->Γ 14 d=some w->run Γ zav 1 d=some w:=by apply DL.ok_law_is_fraction<;>rfl
theorem ok_law_is_spot:∀d w,d.length=1->Γ 114 d=some w->run Γ zau 1 d=some w:=by apply DL.ok_law_is_spot<;>rfl
theorem ok_law_plus:∀d w,d.length=2->Γ 108 d=some w->run Γ zdy 2 d=some w:=by apply DL.ok_law_plus<;>rfl
theorem ok_law_times_k31:∀d w,d.length=2->Γ 74 d=some w->run Γ zas 2 d=some w:=by apply DL.ok_law_times_k31<;>rfl
theorem ok_law_moved_k41:∀d w,d.length=3->Γ 113 d=some w->run Γ zag 7 d=some w:=by apply DL.ok_law_moved_k41<;>rfl
theorem ok_law_turn_k31:∀d w,d.length=3->Γ 45 d=some w->run Γ zaa 9 d=some w:=by apply DL.ok_law_turn_k31<;>rfl
theorem ok_law_held:∀d w,d.length=2->Γ 112 d=some w->run Γ zcv 3 d=some w:=by apply DL.ok_law_held<;>rfl
theorem ok_law_sides:∀d w,d.length=1->Γ 128 d=some w->run Γ zbo 11 d=some w:=by apply DL.ok_law_sides<;>rfl
theorem ok_law_less:∀d w,d.length=2->Γ 110 d=some w->run Γ zdz 2 d=some w:=by apply DL.ok_law_less<;>rfl
theorem ok_law_least_k41:∀d w,d.length=3->Γ 84 d=some w->run Γ zah 7 d=some w:=by apply DL.ok_law_least_k41<;>rfl
theorem ok_law_paper:∀d w,d.length=3->Γ 130 d=some w->run Γ zbp 13 d=some w:=by apply DL.ok_law_paper<;>rfl
def ydi:∀d:List Int,d.length ≤ 63->run Γ zbv 7 [.lst (d.map D.int)]=some (.val (.bl true)):=by
 intro d e;apply DL.law41<;>first|rfl|exact e
end LW
namespace LW
open PySem L2 DL
def top(i:Nat):Stmt:=PySem.Challenge.pw_snugfit_k41_whole_fit.main.body.getD i (.Pass ⟨0,0,0,0⟩)
def bnd1{x:Str}{f:Stmt}{l:Str}(h:∀(kV d i:Value) (j:Option Addr) (e ct:Value) (g:Value),bindArgs (PySem.W.fnOf x x (zbg f) (Bg f) (Bd f) .none kV d i j e ct) ⟨[g],[]⟩=pure ([l].zip [g])):Bnd x f [l]:=λkV d i j e ct n m=>by
 cases n with
 |nil=>cases m
 |cons g o=>
  cases o with
  |nil=>exact h kV d i j e ct g
  |cons _ _=>cases m
def bnd2{x:Str}{f:Stmt}{n o:Str}(h:∀(kV d j:Value) (l:Option Addr) (e ct:Value) (g i:Value),bindArgs (PySem.W.fnOf x x (zbg f) (Bg f) (Bd f) .none kV d j l e ct) ⟨[g,i],[]⟩=pure ([n,o].zip [g,i])):Bnd x f [n,o]:=λkV d j l e ct p m=>by
 cases p with
 |nil=>cases m
 |cons g q=>
  cases q with
  |nil=>cases m
  |cons i r=>
   cases r with
   |nil=>exact h kV d j l e ct g i
   |cons _ _=>cases m
def bnd3{x:Str}{f:Stmt}{o p q:Str}(h:∀(kV d m:Value) (n:Option Addr) (e ct:Value) (g i j:Value),bindArgs (PySem.W.fnOf x x (zbg f) (Bg f) (Bd f) .none kV d m n e ct) ⟨[g,i,j],[]⟩=pure ([o,p,q].zip [g,i,j])):Bnd x f [o,p,q]:=λkV d m n e ct r l=>by
 cases r with
 |nil=>cases l
 |cons g s=>
  cases s with
  |nil=>cases l
  |cons i t=>
   cases t with
   |nil=>cases l
   |cons j u=>
    cases u with
    |nil=>exact h kV d m n e ct g i j
    |cons _ _=>cases l
def zkc:FnScope ["_law_script","_law_many","_law_k","_law_found","_law_cell","_law_at"] ["_law_script","_law_many"] (Bd (top 35)):=vD
def zkh:Bnd "_law_numbers" (top 35) ["_law_script","_law_many"]:=bnd2 λ_ _ _ _ _ _ _ _=>rfl
def ziq:FnScope ["_law_head","_law_lows","_law_k","_law_highs","_law_top"] ["_law_head"] (Bd (top 38)):=vD
def zjq:Bnd "_law_bows" (top 38) ["_law_head"]:=bnd1 λ_ _ _ _ _ _ _=>rfl
def zin:FnScope ["_law_head","_law_u","_law_v","_law_both","_law_way","_law_far","_law_back"] ["_law_head"] (Bd (top 39)):=vD
def zjo:Bnd "_law_ring" (top 39) ["_law_head"]:=bnd1 λ_ _ _ _ _ _ _=>rfl
def zke:FnScope ["_law_one","_law_other"] ["_law_one","_law_other"] (Bd (top 36)):=vD
def zkj:Bnd "_law_divisor" (top 36) ["_law_one","_law_other"]:=bnd2 λ_ _ _ _ _ _ _ _=>rfl
def zio:FnScope ["_law_top","_law_bottom","_law_most"] ["_law_top","_law_bottom"] (Bd (top 37)):=vD
def zjp:Bnd "_law_fraction" (top 37) ["_law_top","_law_bottom"]:=bnd2 λ_ _ _ _ _ _ _ _=>rfl
def zgx:FnScope ["_law_head","_law_ring_here","_law_by","_law_off","_law_share","_law_at","_law_found","_law_x","_law_y","_law_right"] ["_law_head"] (Bd (top 40)):=vD
def zhf:Bnd "_law_shape" (top 40) ["_law_head"]:=bnd1 λ_ _ _ _ _ _ _=>rfl
def ycb:FnScope ["side","other"] ["side","other"] (Bd (top 15)):=vD
def yfj:Bnd "cross" (top 15) ["side","other"]:=bnd2 λ_ _ _ _ _ _ _ _=>rfl
def zlj:FnScope ["trio","before","middle","after"] ["trio"] (Bd (top 23)):=vD
def zmu:Bnd "weights_of" (top 23) ["trio"]:=bnd1 λ_ _ _ _ _ _ _=>rfl
def zkb:FnScope ["trio","common","bound","top","bottom","weight","middle"] ["trio"] (Bd (top 24)):=vD
def zkg:Bnd "set_closing" (top 24) ["trio"]:=bnd1 λ_ _ _ _ _ _ _=>rfl
def ybw:FnScope ["shape"] ["shape"] (Bd (top 13)):=vD
def yfe:Bnd "steps" (top 13) ["shape"]:=bnd1 λ_ _ _ _ _ _ _=>rfl
def zuh:FnScope ["one","other","great","small","rest"] ["one","other"] (Bd (top 4)):=vD
def zvi:Bnd "divisor" (top 4) ["one","other"]:=bnd2 λ_ _ _ _ _ _ _ _=>rfl
def yis:FnScope ["one","other","shared","top","rest"] ["one","other"] (Bd (top 6)):=vD
def yng:Bnd "plus" (top 6) ["one","other"]:=bnd2 λ_ _ _ _ _ _ _ _=>rfl
def ybz:FnScope ["one","other"] ["one","other"] (Bd (top 7)):=vD
def yfh:Bnd "minus" (top 7) ["one","other"]:=bnd2 λ_ _ _ _ _ _ _ _=>rfl
def yby:FnScope ["top","bottom","shared"] ["top","bottom"] (Bd (top 5)):=vD
def yfg:Bnd "ratio" (top 5) ["top","bottom"]:=bnd2 λ_ _ _ _ _ _ _ _=>rfl
def ybv:FnScope ["one","other"] ["one","other"] (Bd (top 8)):=vD
def yfd:Bnd "times" (top 8) ["one","other"]:=bnd2 λ_ _ _ _ _ _ _ _=>rfl
def zil:FnScope ["parts","common","part","tops","shared","top"] ["parts"] (Bd (top 16)):=vD
def zjm:Bnd "lowest_whole" (top 16) ["parts"]:=bnd1 λ_ _ _ _ _ _ _=>rfl
def zik:FnScope ["start","end","a","b","c"] ["start","end"] (Bd (top 14)):=vD
def zjl:Bnd "side_between" (top 14) ["start","end"]:=bnd2 λ_ _ _ _ _ _ _ _=>rfl
def zpt:FnScope ["shape"] ["shape"] (Bd (top 12)):=vD
def zrb:Bnd "sides_of" (top 12) ["shape"]:=bnd1 λ_ _ _ _ _ _ _=>rfl
def yca:FnScope ["a","b","spot"] ["a","b","spot"] (Bd (top 17)):=vD
def yfi:Bnd "level" (top 17) ["a","b","spot"]:=bnd3 λ_ _ _ _ _ _ _ _ _=>rfl
def ycc:FnScope ["one","other"] ["one","other"] (Bd (top 10)):=vD
def yfk:Bnd "below" (top 10) ["one","other"]:=bnd2 λ_ _ _ _ _ _ _ _=>rfl
def ybx:FnScope ["shape","a","b","best","corner","found"] ["shape","a","b"] (Bd (top 18)):=vD
def yff:Bnd "reach" (top 18) ["shape","a","b"]:=bnd3 λ_ _ _ _ _ _ _ _ _=>rfl
def zud:FnScope ["bounds","k"] ["bounds","k"] (Bd (top 22)):=vD
def zve:Bnd "trio_at" (top 22) ["bounds","k"]:=bnd2 λ_ _ _ _ _ _ _ _=>rfl
def znr:FnScope ["one","other","bounds","place","side","least","k"] ["one","other"] (Bd (top 21)):=vD
def zpg:Bnd "bounds_of" (top 21) ["one","other"]:=bnd2 λ_ _ _ _ _ _ _ _=>rfl
def yiv:FnScope ["bounds","k"] ["bounds","k"] (Bd (top 27)):=vD
def ynj:Bnd "drop" (top 27) ["bounds","k"]:=bnd2 λ_ _ _ _ _ _ _ _=>rfl
def zpy:FnScope ["bounds","first","k","closing"] ["bounds"] (Bd (top 25)):=vD
def zrg:Bnd "earliest" (top 25) ["bounds"]:=bnd1 λ_ _ _ _ _ _ _=>rfl
def zpx:FnScope ["bounds","k"] ["bounds","k"] (Bd (top 26)):=vD
def zrf:Bnd "ends_all" (top 26) ["bounds","k"]:=bnd2 λ_ _ _ _ _ _ _ _=>rfl
def znn:FnScope ["trio","weights","shared","weight","shares"] ["trio"] (Bd (top 32)):=vD
def zpc:Bnd "shares_of" (top 32) ["trio"]:=bnd1 λ_ _ _ _ _ _ _=>rfl
def zug:FnScope ["bound","factor"] ["bound","factor"] (Bd (top 29)):=vD
def zvh:Bnd "edge_by" (top 29) ["bound","factor"]:=bnd2 λ_ _ _ _ _ _ _ _=>rfl
def yit:FnScope ["one","other"] ["one","other"] (Bd (top 9)):=vD
def ynh:Bnd "over" (top 9) ["one","other"]:=bnd2 λ_ _ _ _ _ _ _ _=>rfl
def zue:FnScope ["one","other","factor","first","second","bend","x","y"] ["one","other","factor"] (Bd (top 28)):=vD
def zvf:Bnd "meeting" (top 28) ["one","other","factor"]:=bnd3 λ_ _ _ _ _ _ _ _ _=>rfl
def sc_fit:FnScope ["one","other","bounds","k","trio","closing","factor","shares","places","weights"] ["one","other"] (Bd (top 31)):=vD
def bd_fit:Bnd "fit" (top 31) ["one","other"]:=bnd2 λ_ _ _ _ _ _ _ _=>rfl
def zno:FnScope ["_law_found"] ["_law_found"] (Bd (top 34)):=vD
def zpd:Bnd "_law_whole" (top 34) ["_law_found"]:=bnd1 λ_ _ _ _ _ _ _=>rfl
def zez:FnScope ["_law_found"] ["_law_found"] (Bd (top 47)):=vD
def zfq:Bnd "_law_is_fraction" (top 47) ["_law_found"]:=bnd1 λ_ _ _ _ _ _ _=>rfl
def zkd:FnScope ["_law_found"] ["_law_found"] (Bd (top 48)):=vD
def zki:Bnd "_law_is_spot" (top 48) ["_law_found"]:=bnd1 λ_ _ _ _ _ _ _=>rfl
def zpu:FnScope ["_law_one","_law_other"] ["_law_one","_law_other"] (Bd (top 41)):=vD
def zrc:Bnd "_law_plus" (top 41) ["_law_one","_law_other"]:=bnd2 λ_ _ _ _ _ _ _ _=>rfl
def zgw:FnScope ["_law_one","_law_other"] ["_law_one","_law_other"] (Bd (top 42)):=vD
def zhe:Bnd "_law_times" (top 42) ["_law_one","_law_other"]:=bnd2 λ_ _ _ _ _ _ _ _=>rfl
def zgy:FnScope ["_law_shape_here","_law_factor","_law_push","_law_found","_law_x","_law_y","_law_right"] ["_law_shape_here","_law_factor","_law_push"] (Bd (top 46)):=vD
def zhg:Bnd "_law_moved" (top 46) ["_law_shape_here","_law_factor","_law_push"]:=bnd3 λ_ _ _ _ _ _ _ _ _=>rfl
def zim:FnScope ["_law_one","_law_two","_law_three","_law_ahead_x","_law_ahead_y","_law_on_x","_law_on_y","_law_left","_law_right"] ["_law_one","_law_two","_law_three"] (Bd (top 44)):=vD
def zjn:Bnd "_law_turn" (top 44) ["_law_one","_law_two","_law_three"]:=bnd3 λ_ _ _ _ _ _ _ _ _=>rfl
def zpw:FnScope ["_law_shape_here","_law_spot","_law_k"] ["_law_shape_here","_law_spot"] (Bd (top 45)):=vD
def zre:Bnd "_law_held" (top 45) ["_law_shape_here","_law_spot"]:=bnd2 λ_ _ _ _ _ _ _ _=>rfl
def znp:FnScope ["_law_shape_here","_law_found","_law_k","_law_one","_law_other","_law_right","_law_up","_law_a","_law_b","_law_most","_law_c"] ["_law_shape_here"] (Bd (top 49)):=vD
def zpe:Bnd "_law_sides" (top 49) ["_law_shape_here"]:=bnd1 λ_ _ _ _ _ _ _=>rfl
def zpv:FnScope ["_law_one","_law_other"] ["_law_one","_law_other"] (Bd (top 43)):=vD
def zrd:Bnd "_law_less" (top 43) ["_law_one","_law_other"]:=bnd2 λ_ _ _ _ _ _ _ _=>rfl
def zgz:FnScope ["_law_shape_here","_law_a","_law_b","_law_found","_law_x","_law_y","_law_one"] ["_law_shape_here","_law_a","_law_b"] (Bd (top 50)):=vD
def zhh:Bnd "_law_least" (top 50) ["_law_shape_here","_law_a","_law_b"]:=bnd3 λ_ _ _ _ _ _ _ _ _=>rfl
def znq:FnScope ["_law_found","_law_one","_law_other","_law_factor","_law_push","_law_places","_law_weights","_law_sides_here","_law_sums","_law_least_here","_law_k","_law_side","_law_j"] ["_law_found","_law_one","_law_other"] (Bd (top 51)):=vD
def zpf:Bnd "_law_paper" (top 51) ["_law_found","_law_one","_law_other"]:=bnd3 λ_ _ _ _ _ _ _ _ _=>rfl
def zuf:FnScope ["_law_script","_law_head","_law_one","_law_other","_law_handed","_law_found","_law_spot"] ["_law_script"] (Bd (top 52)):=vD
def zvg:Bnd "law" (top 52) ["_law_script"]:=bnd1 λ_ _ _ _ _ _ _=>rfl
def zjx:trSs 40 ⟨["_law_script","_law_many","_law_k","_law_found","_law_cell","_law_at"],Bd (top 35),[],[],false⟩ (Bg (top 35))=some zbh:=by kernel_rfl
def zig:trSs 40 ⟨["_law_head","_law_lows","_law_k","_law_highs","_law_top"],Bd (top 38),[],[],false⟩ (Bg (top 38))=some zap:=by kernel_rfl
def zie:trSs 40 ⟨["_law_head","_law_u","_law_v","_law_both","_law_way","_law_far","_law_back"],Bd (top 39),[("_law_bows",105,1)],[],false⟩ (Bg (top 39))=some zao:=by kernel_rfl
def zjz:trSs 40 ⟨["_law_one","_law_other"],Bd (top 36),[],[],false⟩ (Bg (top 36))=some zca:=by kernel_rfl
def zif:trSs 40 ⟨["_law_top","_law_bottom","_law_most"],Bd (top 37),[("_law_divisor",12,2)],[],false⟩ (Bg (top 37))=some zbq:=by kernel_rfl
def zgs:trSs 40 ⟨["_law_head","_law_ring_here","_law_by","_law_off","_law_share","_law_at","_law_found","_law_x","_law_y","_law_right"],Bd (top 40),[("_law_ring",46,1),("_law_fraction",103,2)],[],false⟩ (Bg (top 40))=some zaf:=by kernel_rfl
def ybe:trSs 40 ⟨["side","other"],Bd (top 15),[],[],false⟩ (Bg (top 15))=some zju:=by kernel_rfl
def zlb:trSs 40 ⟨["trio","before","middle","after"],Bd (top 23),[("cross",81,2)],[],true⟩ (Bg (top 23))=some zbu:=by kernel_rfl
def zka:SetSh (top 24) ⟨["trio","common","bound","top","bottom","weight","middle"],Bd (top 24),[("weights_of",93,1)],[],true⟩ 40 o_set_closing.1 o_set_closing.2.1 o_set_closing.2.2:=⟨(Bg (top 24)).take 6,_,_,_,_,_,rfl,by kernel_rfl,by kernel_rfl,by kernel_rfl,rfl⟩
def yaz:trSs 40 ⟨["shape"],Bd (top 13),[],[],false⟩ (Bg (top 13))=some zjs:=by kernel_rfl
def ztx:trSs 40 ⟨["one","other","great","small","rest"],Bd (top 4),[],[],false⟩ (Bg (top 4))=some zfs:=by kernel_rfl
def yhq:trSs 40 ⟨["one","other","shared","top","rest"],Bd (top 6),[("divisor",0,2)],[],false⟩ (Bg (top 6))=some ztk:=by kernel_rfl
def ybc:trSs 40 ⟨["one","other"],Bd (top 7),[("plus",9,2)],[],false⟩ (Bg (top 7))=some zmx:=by kernel_rfl
def ybb:trSs 40 ⟨["top","bottom","shared"],Bd (top 5),[("divisor",0,2)],[],false⟩ (Bg (top 5))=some zmw:=by kernel_rfl
def yay:trSs 40 ⟨["one","other"],Bd (top 8),[("ratio",1,2)],[],false⟩ (Bg (top 8))=some zmv:=by kernel_rfl
def zic:trSs 40 ⟨["parts","common","part","tops","shared","top"],Bd (top 16),[("divisor",0,2)],[],false⟩ (Bg (top 16))=some zan:=by kernel_rfl
def zib:trSs 40 ⟨["start","end","a","b","c"],Bd (top 14),[("minus",10,2),("plus",9,2),("times",11,2),("lowest_whole",43,1)],[],false⟩ (Bg (top 14))=some zaz:=by kernel_rfl
def zpk:trSs 40 ⟨["shape"],Bd (top 12),[("steps",41,1),("side_between",42,2)],[],false⟩ (Bg (top 12))=some zcb:=by kernel_rfl
def ybd:trSs 40 ⟨["a","b","spot"],Bd (top 17),[("plus",9,2),("times",11,2)],[],false⟩ (Bg (top 17))=some zjt:=by kernel_rfl
def ybf:trSs 40 ⟨["one","other"],Bd (top 10),[],[],false⟩ (Bg (top 10))=some zer:=by kernel_rfl
def yba:trSs 40 ⟨["shape","a","b","best","corner","found"],Bd (top 18),[("level",50,3),("below",21,2)],[],false⟩ (Bg (top 18))=some zgh:=by kernel_rfl
def ztt:trSs 40 ⟨["bounds","k"],Bd (top 22),[],[],false⟩ (Bg (top 22))=some zdp:=by kernel_rfl
def znl:BoSh (top 21) ⟨["one","other","bounds","place","side","least","k"],Bd (top 21),[("sides_of",40,1),("minus",10,2),("reach",59,3),("trio_at",92,2)],[],true⟩ 40 o_bounds_of.1 o_bounds_of.2.1 o_bounds_of.2.2.1 o_bounds_of.2.2.2:=⟨_,_,_,_,_,_,_,_,_,_,_,_,_,_,_,_,_,_,_,_,_,_,_,_,_,_,_,_,_,_,_,_,rfl,rfl,by kernel_rfl,by kernel_rfl,rfl,rfl,by kernel_rfl,rfl,by kernel_rfl,rfl,by decide +kernel,by decide +kernel,by decide +kernel⟩
def yij:yhi (top 27) ⟨["bounds","k"],Bd (top 27),[("trio_at",92,2)],[],true⟩ 40 o_drop.1 o_drop.2:=⟨_,_,_,_,_,_,_,_,_,_,_,_,_,rfl,rfl,by kernel_rfl,by kernel_rfl,rfl,rfl,by decide +kernel⟩
def zpp:trSs 40 ⟨["bounds","first","k","closing"],Bd (top 25),[("below",21,2)],[],true⟩ (Bg (top 25))=some zcx:=by kernel_rfl
def zpo:trSs 40 ⟨["bounds","k"],Bd (top 26),[("weights_of",93,1),("trio_at",92,2)],[],false⟩ (Bg (top 26))=some zcw:=by kernel_rfl
def znc:trSs 40 ⟨["trio","weights","shared","weight","shares"],Bd (top 32),[("weights_of",93,1),("divisor",0,2)],[],true⟩ (Bg (top 32))=some zbn:=by kernel_rfl
def ztw:trSs 40 ⟨["bound","factor"],Bd (top 29),[("minus",10,2),("times",11,2)],[],true⟩ (Bg (top 29))=some zdq:=by kernel_rfl
def yhr:trSs 40 ⟨["one","other"],Bd (top 9),[("ratio",1,2)],[],false⟩ (Bg (top 9))=some ztl:=by kernel_rfl
def ztu:trSs 40 ⟨["one","other","factor","first","second","bend","x","y"],Bd (top 28),[("edge_by",99,2),("cross",81,2),("minus",10,2),("times",11,2),("over",20,2)],[],true⟩ (Bg (top 28))=some zcu:=by kernel_rfl
def sh_fit:FitSh (top 31) ⟨["one","other","bounds","k","trio","closing","factor","shares","places","weights"],Bd (top 31),[("earliest",95,1),("ends_all",96,2),("trio_at",92,2),("ratio",1,2),("shares_of",126,1),("meeting",98,3)],[],true⟩ 40 o_fit.1 o_fit.2.1 o_fit.2.2:=⟨_,_,_,_,_,_,_,_,_,_,_,_,_,_,_,_,_,_,_,_,rfl,by kernel_rfl,by kernel_rfl,by kernel_rfl,by kernel_rfl,by kernel_rfl,by kernel_rfl,by kernel_rfl,by kernel_rfl,rfl,rfl,by decide +kernel,by decide +kernel⟩
def znd:trSs 40 ⟨["_law_found"],Bd (top 34),[],[],false⟩ (Bg (top 34))=some zdc:=by kernel_rfl
def zev:trSs 40 ⟨["_law_found"],Bd (top 47),[("_law_whole",3,1),("_law_divisor",12,2)],[],false⟩ (Bg (top 47))=some zav:=by kernel_rfl
def zjy:trSs 40 ⟨["_law_found"],Bd (top 48),[("_law_is_fraction",14,1)],[],false⟩ (Bg (top 48))=some zau:=by kernel_rfl
def zpl:trSs 40 ⟨["_law_one","_law_other"],Bd (top 41),[("_law_fraction",103,2)],[],false⟩ (Bg (top 41))=some zdy:=by kernel_rfl
def zgr:trSs 40 ⟨["_law_one","_law_other"],Bd (top 42),[("_law_fraction",103,2)],[],false⟩ (Bg (top 42))=some zas:=by kernel_rfl
def zgt:trSs 40 ⟨["_law_shape_here","_law_factor","_law_push","_law_found","_law_x","_law_y","_law_right"],Bd (top 46),[("_law_plus",108,2),("_law_times",74,2)],[],false⟩ (Bg (top 46))=some zag:=by kernel_rfl
def zid:trSs 40 ⟨["_law_one","_law_two","_law_three","_law_ahead_x","_law_ahead_y","_law_on_x","_law_on_y","_law_left","_law_right"],Bd (top 44),[("_law_plus",108,2),("_law_times",74,2)],[],false⟩ (Bg (top 44))=some zaa:=by kernel_rfl
def zpn:trSs 40 ⟨["_law_shape_here","_law_spot","_law_k"],Bd (top 45),[("_law_turn",45,3)],[],false⟩ (Bg (top 45))=some zcv:=by kernel_rfl
def zne:trSs 40 ⟨["_law_shape_here","_law_found","_law_k","_law_one","_law_other","_law_right","_law_up","_law_a","_law_b","_law_most","_law_c"],Bd (top 49),[("_law_plus",108,2),("_law_divisor",12,2),("_law_times",74,2)],[],false⟩ (Bg (top 49))=some zbo:=by kernel_rfl
def zpm:trSs 40 ⟨["_law_one","_law_other"],Bd (top 43),[],[],false⟩ (Bg (top 43))=some zdz:=by kernel_rfl
def zgu:trSs 40 ⟨["_law_shape_here","_law_a","_law_b","_law_found","_law_x","_law_y","_law_one"],Bd (top 50),[("_law_plus",108,2),("_law_times",74,2),("_law_less",110,2)],[],false⟩ (Bg (top 50))=some zah:=by kernel_rfl
def znf:trSs 40 ⟨["_law_found","_law_one","_law_other","_law_factor","_law_push","_law_places","_law_weights","_law_sides_here","_law_sums","_law_least_here","_law_k","_law_side","_law_j"],Bd (top 51),[("_law_sides",128,1),("_law_whole",3,1),("_law_plus",108,2),("_law_times",74,2),("_law_least",84,3)],[],false⟩ (Bg (top 51))=some zbp:=by kernel_rfl
def ztv:trSs 40 ⟨["_law_script","_law_head","_law_one","_law_other","_law_handed","_law_found","_law_spot"],Bd (top 52),[("_law_numbers",102,2),("_law_shape",47,1),("fit",125,2),("_law_is_fraction",14,1),("_law_is_spot",114,1),("_law_moved",113,3),("_law_held",112,2),("_law_paper",130,3)],[],false⟩ (Bg (top 52))=some zbv:=by kernel_rfl
section
variable{P:Program}{w:World}{K:vE}{h:Heap}{mg:Str->Option Value}{fa:Addr}
def yii:yhh (zgc (top 20) 0):=⟨_,_,_,_,_,_,_,_,_,_,_,_,_,_,_,_,_,rfl⟩
def yiu:FnScope ["self","place","side","least"] ["self","place","side","least"] (Bd (zgc (top 20) 0)):=vD
theorem yni:∀(kV d g:Value) (h:Option Addr) (e ct:Value) (f:List Value),f.length=4->bindArgs (PySem.W.fnOf "__init__" "Bound.__init__" (zbg (zgc (top 20) 0)) (Bg (zgc (top 20) 0)) (Bd (zgc (top 20) 0)) .none kV d g h e ct) ⟨f,[]⟩=pure ((["self","place","side","least"]:List Str).zip f)
 |_,_,_,_,_,_,[_,_,_,_],_=>rfl
def all_mk(X:K.In h)(G:h.Ns mainGlobals mg)(b4:mg "law" = some (.ref fa))(Y:At K "_law_numbers" (top 35))(J:At K "_law_bows" (top 38))(L:At K "_law_ring" (top 39))(Z:At K "_law_divisor" (top 36))(M:At K "_law_fraction" (top 37))(B:At K "_law_shape" (top 40))(aD:At K "cross" (top 15))(a5:At K "weights_of" (top 23))(a0:At K "set_closing" (top 24))(aE:At K "steps" (top 13))(aw:At K "divisor" (top 4))(aQ:At K "plus" (top 6))(aF:At K "minus" (top 7))(aG:At K "ratio" (top 5))(aH:At K "times" (top 8))(N:At K "lowest_whole" (top 16))(O:At K "side_between" (top 14))(ah:At K "sides_of" (top 12))(aI:At K "level" (top 17))(aJ:At K "below" (top 10))(aK:At K "reach" (top 18))(ax:At K "trio_at" (top 22))(a6:At K "bounds_of" (top 21))(aR:At K "drop" (top 27))(ai:At K "earliest" (top 25))(aj:At K "ends_all" (top 26))(a7:At K "shares_of" (top 32))(ay:At K "edge_by" (top 29))(aS:At K "over" (top 9))(az:At K "meeting" (top 28))(aX:At K "fit" (top 31))(a8:At K "_law_whole" (top 34))(t:At K "_law_is_fraction" (top 47))(a1:At K "_law_is_spot" (top 48))(ak:At K "_law_plus" (top 41))(C:At K "_law_times" (top 42))(D:At K "_law_moved" (top 46))(Q:At K "_law_turn" (top 44))(am:At K "_law_held" (top 45))(a9:At K "_law_sides" (top 49))(an:At K "_law_less" (top 43))(E:At K "_law_least" (top 50))(aa:At K "_law_paper" (top 51))(aA:At K "law" (top 52))(f:AtC K (zgc (top 20) 0))
 (b5:PySem.W.nsIn K mainGlobals "len" = some none)(b6:PySem.W.nsIn K mainGlobals "abs" = some none)(aP:PySem.W.nsIn K mainGlobals "isinstance" = some none)(b7:PySem.W.nsIn K mainGlobals "int" = some none)(b2:PySem.W.nsIn K mainGlobals "bool" = some none)(b0:PySem.W.nsIn K mainGlobals "tuple" = some none)(b3:PySem.W.nsIn K mainGlobals "list" = some none)(b1:PySem.W.nsIn K mainGlobals "range" = some none)(aT:PySem.W.nsIn K mainGlobals "enumerate" = some none)(b8:PySem.W.nsIn K mainGlobals "min" = some none)(b9:PySem.W.nsIn K mainGlobals "max" = some none)(aZ:PySem.W.nsIn K mainGlobals "sorted" = some none)(ba:PySem.W.nsIn K mainGlobals "set" = some none)(aW:PySem.W.nsIn K mainGlobals "reversed" = some none)(bb:PySem.W.nsIn K mainGlobals "zip" = some none)(bc:PySem.W.nsIn K mainGlobals "sum" = some none):
  ∃fd:FuncData,(∀(s:Shared) (v:Value),BindsTo s fd ⟨[v],[]⟩ [("_law_script",v)]) ∧ ∀d:Heap,K.In d->d.Ns mainGlobals mg->FnOk P w K mg d CX0 44 fa fd ["_law_script"] (spD K 1 (run Γ zbv 7)):=by
 have m:∀x∈zck,mg x=none:=yet X G (by
  intro x hx;simp only[zck,Zg,Zn,or_false] at hx;rcases hx with rfl|rfl|rfl|rfl|rfl|rfl|rfl|rfl|rfl|rfl|rfl|rfl|rfl|rfl|rfl|rfl<;>assumption)
 refine law_at aA X G b4 zuf zvg ztv (λd hk hn=>?_);have a2:GFn P w K mg d 1 "_law_numbers" 2 (Γ 102):=Bu (k:=0) Y X G zkc zkh zjx rfl ⟨Calls.nil,CallsR.nil,(λh=>nomatch h),m⟩ ok_law_numbers;have R:GFn P w K mg d 2 "_law_bows" 1 (Γ 105):=Bu (k:=1) J X G ziq zjq zig rfl ⟨Calls.nil,CallsR.nil,(λh=>nomatch h),m⟩ ok_law_bows_k32;have S:GFn P w K mg d 3 "_law_ring" 1 (Γ 46):=Bu (k:=2) L X G zin zjo zie rfl ⟨(Calls.cons R vA Calls.nil),CallsR.nil,(λh=>nomatch h),m⟩ ok_law_ring_k31;have j:GFn P w K mg d 4 "_law_divisor" 2 (Γ 12):=Bu (k:=3) Z X G zke zkj zjz rfl ⟨Calls.nil,CallsR.nil,(λh=>nomatch h),m⟩ ok_law_divisor;have i:GFn P w K mg d 5 "_law_fraction" 2 (Γ 103):=Bu (k:=4) M X G zio zjp zif rfl ⟨(Calls.cons j vA Calls.nil),CallsR.nil,(λh=>nomatch h),m⟩ ok_law_fraction;have F:GFn P w K mg d 6 "_law_shape" 1 (Γ 47):=Bu (k:=5) B X G zgx zhf zgs rfl ⟨(Calls.cons S vA (Calls.cons i vA Calls.nil)),CallsR.nil,(λh=>nomatch h),m⟩ ok_law_shape_k31;have ao:GFn P w K mg d 7 "cross" 2 (Γ 81):=Bu (k:=6) aD X G ycb yfj ybe rfl ⟨Calls.nil,CallsR.nil,(λh=>nomatch h),m⟩ ok_cross;have o:GFn P w K mg d 8 "weights_of" 1 (Γ 93):=Bu (k:=7) a5 X G zlj zmu zlb rfl ⟨(Calls.cons ao vA Calls.nil),CallsR.nil,(λ_=>f.bf),m⟩ ok_weights_of;have r:GSp P w K mg d 9 "set_closing" (zgv K Psi):=ylc (k:=8) a0 X G zkb zkg zka ⟨(Calls.cons o vA Calls.nil),CallsR.nil,(λ_=>f.bf),m⟩ (psi_ok rfl);have aL:GFn P w K mg d 10 "steps" 1 (Γ 41):=Bu (k:=9) aE X G ybw yfe yaz rfl ⟨Calls.nil,CallsR.nil,(λh=>nomatch h),m⟩ ok_steps;have p:GFn P w K mg d 11 "divisor" 2 (Γ 0):=Bu (k:=10) aw X G zuh zvi ztx rfl ⟨Calls.nil,CallsR.nil,(λh=>nomatch h),m⟩ ok_divisor;have ab:GFn P w K mg d 12 "plus" 2 (Γ 9):=Bu (k:=11) aQ X G yis yng yhq rfl ⟨(Calls.cons p vA Calls.nil),CallsR.nil,(λh=>nomatch h),m⟩ ok_plus;have u:GFn P w K mg d 13 "minus" 2 (Γ 10):=Bu (k:=12) aF X G ybz yfh ybc rfl ⟨(Calls.cons ab vA Calls.nil),CallsR.nil,(λh=>nomatch h),m⟩ ok_minus;have a3:GFn P w K mg d 14 "ratio" 2 (Γ 1):=Bu (k:=13) aG X G yby yfg ybb rfl ⟨(Calls.cons p vA Calls.nil),CallsR.nil,(λh=>nomatch h),m⟩ ok_ratio;have z:GFn P w K mg d 15 "times" 2 (Γ 11):=Bu (k:=14) aH X G ybv yfd yay rfl ⟨(Calls.cons a3 vA Calls.nil),CallsR.nil,(λh=>nomatch h),m⟩ ok_times;have T:GFn P w K mg d 16 "lowest_whole" 1 (Γ 43):=Bu (k:=15) N X G zil zjm zic rfl ⟨(Calls.cons p vA Calls.nil),CallsR.nil,(λh=>nomatch h),m⟩ ok_lowest_whole;have U:GFn P w K mg d 17 "side_between" 2 (Γ 42):=Bu (k:=16) O X G zik zjl zib rfl ⟨(Calls.cons u vA (Calls.cons ab vA (Calls.cons z vA (Calls.cons T vA Calls.nil)))),CallsR.nil,(λh=>nomatch h),m⟩ ok_side_between;have ap:GFn P w K mg d 18 "sides_of" 1 (Γ 40):=Bu (k:=17) ah X G zpt zrb zpk rfl ⟨(Calls.cons aL vA (Calls.cons U vA Calls.nil)),CallsR.nil,(λh=>nomatch h),m⟩ ok_sides_of;have aM:GFn P w K mg d 19 "level" 3 (Γ 50):=Bu (k:=18) aI X G yca yfi ybd rfl ⟨(Calls.cons ab vA (Calls.cons z vA Calls.nil)),CallsR.nil,(λh=>nomatch h),m⟩ ok_level;have aq:GFn P w K mg d 20 "below" 2 (Γ 21):=Bu (k:=19) aJ X G ycc yfk ybf rfl ⟨Calls.nil,CallsR.nil,(λh=>nomatch h),m⟩ ok_below;have aN:GFn P w K mg d 21 "reach" 3 (Γ 59):=Bu (k:=20) aK X G ybx yff yba rfl ⟨(Calls.cons aM vA (Calls.cons aq vA Calls.nil)),CallsR.nil,(λh=>nomatch h),m⟩ yco;have q:GFn P w K mg d 22 "trio_at" 2 (Γ 92):=Bu (k:=21) ax X G zud zve ztt rfl ⟨Calls.nil,CallsR.nil,(λh=>nomatch h),m⟩ ok_trio_at;have aO:MkB P w K mg d 1:=mkb_at (k:=0) f X G yiu yni yii (by decide +kernel);have ac:GSp P w K mg d 23 "bounds_of" (spBo K Xi):=gbo_at (k:=21) a6 X G znr zpg (by decide +kernel) znl (m "range" (by decide +kernel)) (r.mono vA) (aO.mono vA) ⟨(Calls.cons ap vA (Calls.cons u vA (Calls.cons aN vA (Calls.cons q vA Calls.nil)))),CallsR.nil,(λ_=>f.bf),m⟩ (xi_ok rfl rfl rfl rfl);have aU:GSp P w K mg d 24 "drop" (zkp K Tht):=ydv (k:=23) aR X G yiv ynj (by decide +kernel) yij (r.mono vA) ⟨(Calls.cons q vA Calls.nil),CallsR.nil,(λ_=>f.bf),m⟩ (tht_ok rfl);have ar:GFn P w K mg d 25 "earliest" 1 (Γ 95):=Bu (k:=24) ai X G zpy zrg zpp rfl ⟨(Calls.cons aq vA Calls.nil),CallsR.nil,(λ_=>f.bf),m⟩ ok_earliest;have as:GFn P w K mg d 26 "ends_all" 2 (Γ 96):=Bu (k:=25) aj X G zpx zrf zpo rfl ⟨(Calls.cons o vA (Calls.cons q vA Calls.nil)),CallsR.nil,(λh=>nomatch h),m⟩ ok_ends_all;have ae:GFn P w K mg d 27 "shares_of" 1 (Γ 126):=Bu (k:=26) a7 X G znn zpc znc rfl ⟨(Calls.cons o vA (Calls.cons p vA Calls.nil)),CallsR.nil,(λ_=>f.bf),m⟩ ok_shares_of;have aB:GFn P w K mg d 28 "edge_by" 2 (Γ 99):=Bu (k:=27) ay X G zug zvh ztw rfl ⟨(Calls.cons u vA (Calls.cons z vA Calls.nil)),CallsR.nil,(λ_=>f.bf),m⟩ ok_edge_by;have aV:GFn P w K mg d 29 "over" 2 (Γ 20):=Bu (k:=28) aS X G yit ynh yhr rfl ⟨(Calls.cons a3 vA Calls.nil),CallsR.nil,(λh=>nomatch h),m⟩ ok_over;have aC:GFn P w K mg d 30 "meeting" 3 (Γ 98):=Bu (k:=29) az X G zue zvf ztu rfl ⟨(Calls.cons aB vA (Calls.cons ao vA (Calls.cons u vA (Calls.cons z vA (Calls.cons aV vA Calls.nil))))),CallsR.nil,(λ_=>f.bf),m⟩ ok_meeting;have aY:GFn P w K mg d 31 "fit" 2 (Γ 125):=ylg (k:=30) (n:=6) aX X G sc_fit rfl bd_fit sh_fit (ac.mono vA) (aU.mono vA) ⟨(Calls.cons ar vA (Calls.cons as vA (Calls.cons q vA (Calls.cons a3 vA (Calls.cons ae vA (Calls.cons aC vA Calls.nil)))))),CallsR.nil,(λ_=>f.bf),m⟩ (ylk rfl rfl rfl rfl rfl rfl);have A:GFn P w K mg d 32 "_law_whole" 1 (Γ 3):=Bu (k:=31) a8 X G zno zpd znd rfl ⟨Calls.nil,CallsR.nil,(λh=>nomatch h),m⟩ ok_law_whole;have l:GFn P w K mg d 33 "_law_is_fraction" 1 (Γ 14):=Bu (k:=32) t X G zez zfq zev rfl ⟨(Calls.cons A vA (Calls.cons j vA Calls.nil)),CallsR.nil,(λh=>nomatch h),m⟩ ok_law_is_fraction;have a4:GFn P w K mg d 34 "_law_is_spot" 1 (Γ 114):=Bu (k:=33) a1 X G zkd zki zjy rfl ⟨(Calls.cons l vA Calls.nil),CallsR.nil,(λh=>nomatch h),m⟩ ok_law_is_spot;have g:GFn P w K mg d 35 "_law_plus" 2 (Γ 108):=Bu (k:=34) ak X G zpu zrc zpl rfl ⟨(Calls.cons i vA Calls.nil),CallsR.nil,(λh=>nomatch h),m⟩ ok_law_plus;have e:GFn P w K mg d 36 "_law_times" 2 (Γ 74):=Bu (k:=35) C X G zgw zhe zgr rfl ⟨(Calls.cons i vA Calls.nil),CallsR.nil,(λh=>nomatch h),m⟩ ok_law_times_k31;have H:GFn P w K mg d 37 "_law_moved" 3 (Γ 113):=Bu (k:=36) D X G zgy zhg zgt rfl ⟨(Calls.cons g vA (Calls.cons e vA Calls.nil)),CallsR.nil,(λh=>nomatch h),m⟩ ok_law_moved_k41;have V:GFn P w K mg d 38 "_law_turn" 3 (Γ 45):=Bu (k:=37) Q X G zim zjn zid rfl ⟨(Calls.cons g vA (Calls.cons e vA Calls.nil)),CallsR.nil,(λh=>nomatch h),m⟩ ok_law_turn_k31;have au:GFn P w K mg d 39 "_law_held" 2 (Γ 112):=Bu (k:=38) am X G zpw zre zpn rfl ⟨(Calls.cons V vA Calls.nil),CallsR.nil,(λh=>nomatch h),m⟩ ok_law_held;have af:GFn P w K mg d 40 "_law_sides" 1 (Γ 128):=Bu (k:=39) a9 X G znp zpe zne rfl ⟨(Calls.cons g vA (Calls.cons j vA (Calls.cons e vA Calls.nil))),CallsR.nil,(λh=>nomatch h),m⟩ ok_law_sides;have av:GFn P w K mg d 41 "_law_less" 2 (Γ 110):=Bu (k:=40) an X G zpv zrd zpm rfl ⟨Calls.nil,CallsR.nil,(λh=>nomatch h),m⟩ ok_law_less;have I:GFn P w K mg d 42 "_law_least" 3 (Γ 84):=Bu (k:=41) E X G zgz zhh zgu rfl ⟨(Calls.cons g vA (Calls.cons e vA (Calls.cons av vA Calls.nil))),CallsR.nil,(λh=>nomatch h),m⟩ ok_law_least_k41;have ag:GFn P w K mg d 43 "_law_paper" 3 (Γ 130):=Bu (k:=42) aa X G znq zpf znf rfl ⟨(Calls.cons af vA (Calls.cons A vA (Calls.cons g vA (Calls.cons e vA (Calls.cons I vA Calls.nil))))),CallsR.nil,(λh=>nomatch h),m⟩ ok_law_paper;exact⟨(Calls.cons a2 vA (Calls.cons F vA (Calls.cons aY vA (Calls.cons l vA (Calls.cons a4 vA (Calls.cons H vA (Calls.cons au vA (Calls.cons ag vA Calls.nil)))))))),CallsR.nil,(λh=>nomatch h),m⟩
end
def walk{l:PySem.W.OpenLaw}{q:Program}{g:List Str}{r:(Str->Option Value)->Heap->Prop}{m:World->Heap->Prop}{d:DefRec}{K:Params->vE}(t:l.most=some 63)(j:d.params.defaults=[])
 (v:∀(w:World) (h:Heap),m w h->(K w.params).In h)
 (F:∀(w:World) (i:Str->Option Value) (o:Addr) (h:Heap),(K w.params).In h->h.Ns mainGlobals i->i d.name=some (.ref o) →
   ∃p:FuncData,(∀(s:Shared) (u:Value),BindsTo s p ⟨[u],[]⟩ [("_law_script",u)]) ∧ ∀e:Heap,(K w.params).In e->e.Ns mainGlobals i->FnOk l.prog w (K w.params) i e CX0 44 o p ["_law_script"] (spD (K w.params) 1 (run Γ zbv 7))):
  PySem.W.WalkO q g r m l.row.toRowW d [] (λf A=>PySem.call f A):=
 L2.walk_of (n:=63) (k:=44) (x := "_law_script") (CX:=λ_=>CX0) (sp:=λw=>spD (K w.params) 1 (run Γ zbv 7)) t vA j ⟨rfl,by decide,by decide⟩ v F (λ_ H a B C _ hS=>ydj ydi H a B C hS) λ_ _ _ _ _ z=>z
end LW
open PySem PySem.W PyProof.Rows
/-! size: the head lays twins of its constants; where these names stand it goes on without -/
namespace PySem.W.Fast
def tw15294084840744482788:=Nat
def tw8766175016515884048:=Nat
def tw2161944027205264373:=Nat
def tw15554592217506644124:=Nat
def tw5851289527508149229:=Nat
def tw1891969711577703798:=Nat
def tw7108985501704533196:=Nat
def tw14540490979378386914:=Nat
def tw4679710366459987436:=Nat
def tw17649877315121239871:=Nat
def tw2487244064113119678:=Nat
def tw16047705500439627834:=Nat
def tw2237249632373176851:=Nat
def tw3538575335115162803:=Nat
def tw15310464744637466431:=Nat
def tw11608623262256959255:=Nat
def tw8956749057549244833:=Nat
def tw17429042106674063039:=Nat
def tw14505458327908875499:=Nat
def tw836489781721935247:=Nat
def tw15635780864116552071:=Nat
def tw5943499287791622949:=Nat
def tw13702577002551685435:=Nat
def tw7115374419762303203:=Nat
def tw13405845376405458080:=Nat
def tw5987753513164057201:=Nat
def tw590317482764454599:=Nat
def tw5362478009726179763:=Nat
def tw16359559645600268124:=Nat
def tw2070140946848620217:=Nat
def tw2293993484105262160:=Nat
def tw15913063326122846431:=Nat
def tw16349554111782381125:=Nat
def tw1263361554718832549:=Nat
def tw14288884301976978807:=Nat
def tw15891974225803172564:=Nat
def tw8859680923322396622:=Nat
def tw17751312244456640013:=Nat
def tw890377102733499828:=Nat
def tw14674236932793743577:=Nat
def tw9305915625434691897:=Nat
def tw17121605071703868729:=Nat
def tw11068720147941856090:=Nat
def tw6003013740671920140:=Nat
def tw7294711882431668202:=Nat
def tw15521893797485204730:=Nat
def tw8650042790203371652:=Nat
def tw6104296017754002473:=Nat
def tw17997887472716479192:=Nat
def tw1602073006697107982:=Nat
def tw16754274743730818214:=Nat
def tw185441539018844862:=Nat
def tw9393492000204787825:=Nat
def tw166944038679798716:=Nat
def tw11349912488009310483:=Nat
def tw603635759321282392:=Nat
def tw9126018567807645375:=Nat
def tw16936558172762843936:=Nat
def tw16298806057710276500:=Nat
def tw11685120724417983342:=Nat
def tw7308011154814200118:=Nat
def tw11405028315882844605:=Nat
def tw9400889626525240032:=Nat
def tw458281592800809763:=Nat
def tw9947327707759848567:=Nat
def tw11117226884685099374:=Nat
def tw15783701065827837493:=Nat
def tw2080548689507515557:=Nat
def tw14937894969054642666:=Nat
def tw12127513871730681001:=Nat
def tw4379829380390427341:=Nat
def tw136383549436042892:=Nat
def tw11543056010112938582:=Nat
def tw7547027892988219770:=Nat
def tw12541467560490606475:=Nat
def tw11861996535059153734:=Nat
def tw4469032735730186447:=Nat
def tw836396487457499372:=Nat
def tw4571198270158740884:=Nat
def tw10912767648237355968:=Nat
def tw7877005262656170014:=Nat
def tw15631259752524823876:=Nat
def tw10164945515997087405:=Nat
def tw4809512355293152145:=Nat
def tw7806497775835327482:=Nat
def tw11565929461951292276:=Nat
def tw7056123607965240910:=Nat
def tw5859217760863564716:=Nat
def tw4363824450556430986:=Nat
def tw13497970037828783580:=Nat
def tw3861615467646890035:=Nat
def tw18379372715451279940:=Nat
def tw18137071839265366704:=Nat
def tw3387963736153715466:=Nat
def tw12019934060509956848:=Nat
def tw17832187238783505508:=Nat
def tw13810374175795502491:=Nat
def tw9849056882174472925:=Nat
def tw17568125880856086867:=Nat
def tw13284936348187043648:=Nat
def tw4697632263333871957:=Nat
def tw16821402845809998673:=Nat
def tw14013159416962077823:=Nat
def tw7260019119472571141:=Nat
def tw5446544494537875727:=Nat
def tw15616910958203537733:=Nat
def tw6561994362850253972:=Nat
def tw14710008140522776526:=Nat
def tw9325395068616762830:=Nat
def tw6986119402513472441:=Nat
def tw7220863859686512142:=Nat
def tw3117811798996412414:=Nat
def tw246654080435794862:=Nat
def tw1971275923618521932:=Nat
def tw10986218488642344345:=Nat
def tw14671206478070037042:=Nat
def tw3780309792696648002:=Nat
def tw9664306879589465997:=Nat
def tw13101723444648288460:=Nat
def tw8506996093127197924:=Nat
def tw3186726393222169254:=Nat
def tw988182901256669136:=Nat
def tw11008822722655516114:=Nat
def tw14566405040936077788:=Nat
def tw7180271743914311925:=Nat
def tw2798157460711623912:=Nat
def tw4502928274448737293:=Nat
def tw16431666130835771277:=Nat
def tw9642202893100245770:=Nat
def tw8130865671096629721:=Nat
def tw6554502029191184275:=Nat
def tw18004794279339296681:=Nat
def tw10713345534520054869:=Nat
def tw12131364296950005475:=Nat
def tw1824683097908905778:=Nat
def tw9792029879493038841:=Nat
def tw1916043228873634627:=Nat
def tw12907746193928696593:=Nat
def tw3063701344342117843:=Nat
def tw2013662832551131797:=Nat
def tw5150244665784926667:=Nat
def tw6391921290204004702:=Nat
def tw6934516879533961095:=Nat
def tw3832804994921059720:=Nat
def tw2250983937898572658:=Nat
def tw1272195787633048879:=Nat
def tw6997169858512296772:=Nat
def tw5752751940282281871:=Nat
def tw17159951130323380527:=Nat
def tw1789451980628978660:=Nat
end PySem.W.Fast
set_option maxRecDepth 100000 in
set_option maxHeartbeats 0 in
theorem PySem.Challenge.cw_snugfit_k41_whole_fit_holds : PySem.Challenge.rw_snugfit_k41_whole_fit.Holds := by
 w_on;o_law;k_head;(case hw=>w_witness2)
 k_fill
 refine LW.walk (l:=PySem.Challenge.rw_snugfit_k41_whole_fit) rfl rfl (fun w h Y=>PySem.W.kIn_of Y) ?F
 case F=>
  intro w mg fa h KX G hmg;refine' LW.all_mk KX G hmg ?_ ?_ ?_ ?_ ?_ ?_ ?_ ?_ ?_ ?_ ?_ ?_ ?_ ?_ ?_ ?_ ?_ ?_ ?_ ?_ ?_ ?_ ?_ ?_ ?_ ?_ ?_ ?_ ?_ ?_ ?_ ?_ ?_ ?_ ?_ ?_ ?_ ?_ ?_ ?_ ?_ ?_ ?_ ?_ ?_ ?_ ?_ ?_ ?_ ?_ ?_ ?_ ?_ ?_ ?_ ?_ ?_ ?_ ?_ ?_ ?_
  all_goals first|(refine' DL.at_mk ?a ?l ?c ?k;(case a=>k_is);(case l=>k_is);(case c=>k_is);(case k=>k_is))|(refine' DL.atc_mk ?a ?m2 ?c1 ?c2 ?c3 ?c4 ?n1 ?n2 ?n3 ?n4 ?m1 ?m3 ?m4 ?l ?c ?k;(case a=>k_is);(case m2=>k_is);(case c1=>k_is);(case c2=>k_is);(case c3=>k_is);(case c4=>k_is);(case n1=>k_is);(case n2=>k_is);(case n3=>k_is);(case n4=>k_is);(case m1=>k_is);(case m3=>k_is);(case m4=>k_is);(case l=>k_is);(case c=>k_is);(case k=>k_is))|k_is
#print axioms PySem.Challenge.cw_snugfit_k41_whole_fit_holds

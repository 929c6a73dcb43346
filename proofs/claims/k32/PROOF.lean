import PyProof.Rows.All
import Wide.All
import OpenK.AllK
import Wide.FinOn
import Lean
import PyProof.EqAt
import PyProof.EqKinds
import PyProof.TupleCall
import PyProof.P3In
import PyProof.Rows.EqDataRows
import KE.KTryMore
import PyProof.SetScanFacts
import PyProof.Rows.SetFrom
import PyProof.SetRoads
import KE.KSortAsk
import KE.KSortTup
import KE.KRevIter
import PyProof.ZipIter
import PySem.Challenge.RW_snugfit_k32_whole_sums_taken_apart
set_option Elab.async false
set_option linter.all false
set_option maxRecDepth 100000
set_option maxHeartbeats 8000000
set_option compiler.extract_closed false
noncomputable section
set_option genSizeOf false
set_option genInjectivity false
local macro_rules | `(tactic| omega) => `(tactic| first | (with_reducible assumption) | (with_reducible refine Nat.le_trans (by assumption) ?_; decide) | (with_reducible refine Nat.lt_of_lt_of_le ?_ (by assumption); decide) | lia)
open PySem.W renaming Frag→vE
set_option hygiene false in
local macro_rules|`(~~~$x)=>`(some (.sh $x))|`(∅)=>`(List D->Option W)
local macro_rules|`(#v[$xs,*])=>do let r:Lean.TSyntax `term<-xs.getElems.foldrM (λ x a=>`(.cons $x $a)) (<-`(.nil));return r
theorem vA{p:Prop}(h:p:=by decide):p:=h
theorem vB{p:Prop}(h:p:=by omega):p:=h
theorem vC{p:Prop}(h:p:=by simp):p:=h
theorem vD{p:Prop}(h:p:=by exact ⟨rfl,rfl,rfl,by decide +kernel,rfl,by decide +kernel,by decide +kernel⟩):p:=h
open Option renaming bind_eq_some_iff→Za,map_eq_some_iff→Zb,bind_some→Yg,map_some→W4,getD_some→Kz,bind_none→Uz,isSome_iff_exists→Vo,getD_none→G0
open List renaming length_map→Zc,mem_cons→Zg,getElem?_map→Zh,getElem?_eq_getElem→Zi,getElem?_eq_some_iff→Zm,mem_singleton→Zp,length_cons→Zr,size_toArray→Zt,not_mem_nil→Zu,mem_map→Zv,map_cons→Zx,getD_eq_getElem?_getD→Z1,length_append→Z5,length_range→Z7,getElem?_append_left→Ya,getElem?_append_right→Yd,map_map→Ye,getElem?_set_ne→Yl,mem_append_right→Ym,getElem?_eq_none→Yn,mem_of_getElem?→Yr,length_drop→Ys,mem_range→Yw,mem_map_of_mem→Yx,getElem?_set_self→Yy,mem_cons_of_mem→Y0,map_append→Y3,length_replicate→Y5,mem_append→Y6,pairwise_cons→Y9,map_congr_left→Wb,sum_cons→Wd,getElem?_cons_succ→We,map_nil→Wh,pairwise_singleton→Wj,getElem?_replicate→Wl,getElem?_of_mem→Wn,mem_cons_self→Wu,length_take→Ww,nodup_cons→W5,length_set→W6,length_zipIdx→Qb,all_cons→Qc,pairwise_iff_getElem→Qh,pairwise_map→Ql,append_nil→Qm,length_reverse→Qq,getElem_of_mem→Qr,getElem?_cons_zero→Qs,lookup_cons→Qv,length_nil→Q4,ext_getElem?→Ka,mem_append_left→Kb,getElem?_zip_eq_some→Kg,getElem_mem→Kk,getElem_inj→Kl,sum_nil→Ko,mem_filter→K5,forIn_cons→K7,filterMap_cons→K8,getLast?_eq_getElem?→Jj,drop_eq_getElem_cons→Jk,getElem?_take_of_lt→Jo,map_drop→Jr,length_eq_zero_iff→Js,mem_reverse→Jv,length_zip→Jz,length_singleton→J0,pairwise_append→Ud,forIn_nil→Uh,getElem_zipIdx→Uj,getElem?_range→Uk,mem_filterMap→Ur,getElem?_drop→Us,findIdx?_eq_some_iff_getElem→Ut,nodup_append→U0,zipIdx_cons→U7,getElem_map→Va,all_eq_true→Vb,of_mem_zip→Vk,nodup_iff_pairwise_ne→Vr,nodup_nil→Vy,map_take→V8,take_of_length_le→V9,getElem?_reverse→Gb,eraseIdx_sublist→Gc,mem_of_mem_drop→Gh,replicate_succ→Gp,map_eq_nil_iff→Gq,reverse_cons→Bb,append_assoc→Bc,take_length→Bg,filter_cons→Bh,drop_length→Bj,any_eq_true→Bk
open PySem renaming wpAny_bind→Zd,wpAny_pure→Zs,wpAny_field→Wg,wpAny_seqItems→Wo,wpAny_holding→W7,sizeLine_eq→Qk,wpAny_call_entry→Q3,wpAny_setField_rec→Q8,wpAny_Call_Name_kw→Q9,wpAny_updateSeq→Kd,wpAny_passesOwn→Ke,wpAny_truthy_bool→Ki,mem_of_lookup→Kj,plainId_quiet→Kv,codeAny_builtin→Kw,sizeLine_eq→K3,wpAny_letGo→Jl,wpAny_rule→Jx,wpAny_newObj_type→Jy,wpAny_nextOf_list_item→Uf,wpAny_execs_nil→Um,wpAny_mono→Uq,wpAny_tryCatch→Uy,wpAny_standAt→Vd,wpAny_attempt→Ve,wpAny_pyIter_list→Vm,codeAny_mono→Vw,wpAny_pyIter_zip→V1,wpAny_eqBool_int→V2,wpAny_newTuple→Ge,wpAny_comprehension_free→Gm,wpAny_onRaise→Gx,wpAny_newList→Gy,wpAny_nextOf_list_end→Bd,seqIndex_neg→Be,builtinLookup_eq_fast→Bf
open PySem.Heap renaming get?_push_of_some→Ze,lt_size→Zo,get?_push_size→Z0,get?_update_other→Yq,get?_update_self→Ws,size_push→Qy,size_update→Km,get?_none_of_le→Ue
open Nat renaming lt_of_lt_of_le→Zf,mod_eq_of_lt→Zj,le_refl→Zl,ne_of_gt→Z8,lt_or_ge→Yf,ne_of_lt→Yi,zero_le→Yj,lt_of_le_of_lt→Yk,add_mod_right→Yt,zero_add→Yz,add_sub_cancel→Wa,le_trans→Wc,mod_lt→Wp,lt_irrefl→Wq,mod_add_mod→Wt,eq_zero_or_pos→Wv,lt_succ_self→Wx,le_add_right→Qw,lt_succ_of_lt→Kx,succ_pos→Jg,mod_self→Jh,mod_eq_sub_mod→Ji,add_sub_assoc→Jq,le_succ→Ju,two_pow_pos→J3,pow_succ→Ua,min_eq_left→Ub,add_mod→Uo,zero_mod→U5,le_of_lt→U6,succ_ne_self→Vi,mul_two→Vp,mod_mod→Vq,add_lt_add→V4,le_of_eq→Gf,add_comm→Gg
open Bool renaming and_eq_true→Zk,false_ne_true→Zz,false_eq_true→Wf,eq_iff_iff→K9,or_eq_true→J2,eq_false_iff→U1,beq_eq_decide_eq→Gd
open Rat renaming mul_nonneg→Zn,mul_pos→Zq,le_of_lt→Zy,intCast_mul→Z4,intCast_lt_intCast→Z6,num_divInt_den→Yo,mul_eq_zero→Y7,le_refl→Wm,intCast_eq_zero_iff→W3,intCast_sub→W8,mul_inv_cancel→Qd,divInt_mul_divInt→Q6,divInt_add_divInt→Q7,div_def→Kn,inv_mul_cancel→Kr,intCast_le_intCast→Kt,mul_assoc→K4,one_mul→Ja,intCast_add→Jb,sub_eq_add_neg→Je,le_trans→Jf,divInt_eq_div→Jp,inv_pos→Jt,mul_comm→U3,add_comm→U4,mul_le_mul_of_nonneg_left→Vh,mkRat_self→V3,divInt_eq_divInt_iff→V7,mul_lt_mul_right→Gn,divInt_mul_right→Go,intCast_natCast→Gz,div_mul_cancel→G9
open Option.some renaming inj→Zw
open Int renaming mul_fdiv_cancel_left→Z3,toNat_natCast→Z9,natAbs_mul→Yb,mul_ne_zero→Yc,natAbs_natCast→Yp,natCast_nonneg→Yv,mul_nonneg→Y4,gcd_dvd_right→Wi,dvd_trans→Wr,mul_pos→Wy,emod_nonneg→W9,mul_nonpos_of_nonneg_of_nonpos→Qa,le_of_lt→Qe,gcd_eq_one_iff→Qf,natAbs_mul_self'→Qn,mul_le_mul_of_nonneg_right→Qt,mul_comm→Qu,gcd_dvd_left→Qx,fmod_eq_emod_of_nonneg→Kc,gcd_mul_right_right_of_gcd_eq_one→Kf,dvd_mul_of_dvd_right→Kq,emod_lt_of_pos→Ks,not_lt→Ky,dvd_coe_gcd→Jc,eq_of_mul_eq_mul_right→Jd,natAbs_neg→Jn,mul_dvd_mul_left→Ui,mul_one→Up,mul_assoc→Uv,lt_irrefl→Uw,natAbs_add_le→U2,zero_add→Vc,one_mul→Vs,natCast_pos→Vt,mul_eq_zero→Vu,fdiv_eq_ediv_of_nonneg→Vz,mul_neg_of_pos_of_neg→V5,zero_dvd→Gi,natAbs_dvd_natAbs→Gj,gcd_comm→Gk,le_refl→G5,lt_trichotomy→Bl,emod_eq_of_lt→Bm
open Prod renaming ext→Yh
open Classical renaming byContradiction→Yu
open PyProof.Rows renaming callWith_type1→Y8,listUpdate_at→Vf,assignInOrder_cons→Vg,subscriptTail_builtinR→G8
open Ne renaming symm→Wz
open Array renaming getElem?_eq_getElem→Qg,getElem_toList→Qj,length_toList→Qp,toList_inj→K0,mem_toList_iff→Uc,forIn_toList→Gw
open PySem.Around renaming under_plainId→Qi,in1_units→G7
open PySem.F renaming slot_zip_next→Qo,plain_extend_loop→Qz,plain_min_loop→Q0,slot_tuple_iterator_next→Kh,plainAttrs_list→Jm,args_zip_next_1→Jw,entry_zip_next→J1,entry_extend_loop→Ux,slot_list_index→Vn,entry_min_loop→Vv,args_tuple_iterator_next_1→V0,entry_tuple_iterator_next→V6
open List.Pairwise renaming imp_of_mem→Q5
open PySem.Heap.SameBut renaming update→Ku
open PySem.W renaming mg_of→Ug,cellsFrom_some→Vx,callWith_K→Ga
open Decidable renaming em→Ul
open PySem.Value renaming isInt_shape→Uu
open PySem.AutoSeq1 renaming wpAny_loadPart'→Vj
open PySem.Calls renaming Name_function_global→Vl,spliced_cons→Gv,spliced_nil→G6
open List.Perm renaming refl→Gu
open PySem.Obj renaming data_mapFields→Ba
namespace L2
open PySem PySem.Spec PyProof.Rows
abbrev Key:=Sum Int Str
def keyIs:Key->Value->Bool
 |.inl k,v=>Value.isInt k v
 |.inr x,v=>Value.isStrOf x v
def keyH(w:World):Key->Int
 |.inl k=>hashInt k
 |.inr x=>hashStr w x
theorem zap:∀{k:Key}{v:Value},keyIs k v=true->(∃i t,k=Sum.inl i/\v=Value.int i t)\/(∃x t,k=Sum.inr x/\v=Value.str x t)
 |.inl i,v,h=>by
  obtain⟨t,e⟩:=Uu (k:=i) (v:=v) h
  exact .inl ⟨i,t,rfl,e⟩
 |.inr x,v,h=>by
  obtain⟨t,e⟩:=Value.isStrOf_shape (x:=x) (v:=v) h
  exact .inr ⟨x,t,rfl,e⟩
def key_ll(a b:Int):decide ((Sum.inl a:Key)=Sum.inl b)=(a == b):=by
 by_cases e:a=b
 ·subst e;simp
 ·have h:¬(Sum.inl a:Key)=Sum.inl b:=λq=>e (Sum.inl.inj q)
  rw[decide_eq_false h];exact(beq_eq_false_iff_ne.mpr e).symm
def key_rr(a b:Str):decide ((Sum.inr a:Key)=Sum.inr b)=decide (a=b):=by
 by_cases e:a=b
 ·subst e;simp
 ·have h:¬(Sum.inr a:Key)=Sum.inr b:=λq=>e (Sum.inr.inj q)
  rw[decide_eq_false h,decide_eq_false e]
def key_lr(a:Int)(b:Str):decide ((Sum.inl a:Key)=Sum.inr b)=false:=decide_eq_false (λq=>nomatch q)
def key_rl(a:Str)(b:Int):decide ((Sum.inr a:Key)=Sum.inl b)=false:=decide_eq_false (λq=>nomatch q)
def zyk(d:Program)(w:World):PySem.KeyKind d w Key where
 is:=keyIs
 hash:=keyH w
 inj:=λv a b m l=>by
  rcases zap m with⟨i,t,rfl,rfl⟩|⟨x,t,rfl,rfl⟩
  ·rcases zap l with⟨j,u,rfl,e⟩|⟨y,u,rfl,e⟩
   ·injection e with f _;rw[f]
   ·exact nomatch e
  ·rcases zap l with⟨j,u,rfl,e⟩|⟨y,u,rfl,e⟩
   ·exact nomatch e
   ·injection e with f _;rw[f]
 byValue:=λk v h=>by
  rcases zap h with⟨i,t,rfl,rfl⟩|⟨x,t,rfl,rfl⟩<;>rfl
 pyHash:=λg h=>by
  rcases zap g with⟨i,t,rfl,rfl⟩|⟨x,t,rfl,rfl⟩
  ·exact wpAny_pyHash_int h
  ·exact wpAny_pyHash_str h
 eqBool:=λn g h=>by
  rcases zap n with⟨i,t,rfl,rfl⟩|⟨x,t,rfl,rfl⟩
  ·rcases zap g with⟨j,u,rfl,rfl⟩|⟨y,u,rfl,rfl⟩
   ·rw[key_ll] at h;exact V2 h
   ·rw[key_lr] at h;exact SeqAt.EqAt.int_str i t y u _ _ _ _ h
  ·rcases zap g with⟨j,u,rfl,rfl⟩|⟨y,u,rfl,rfl⟩
   ·rw[key_rl] at h;exact SeqAt.EqAt.str_int x t j u _ _ _ _ h
   ·rw[key_rr] at h;exact wpAny_eqBool_str h
 «strs» := λk x t v h=>by
  rcases zap h with⟨i,u,rfl,e⟩|⟨y,u,rfl,e⟩
  ·exact nomatch e
  ·injection e with f _
   subst f;cases v<;>rfl
end L2
namespace L2
open PySem PySem.Spec PyProof.Rows
set_option genInjectivity true in
inductive V where
 |non|bl (b:Bool)|int (i:Int)|str (x:Str)|byt (b:Array UInt8)|flt (b:UInt64)|ref (a:Addr)|ty (n:String)
 deriving DecidableEq
def RelV:V->Value->Prop
 |.non,u=>u=Value.none
 |.bl b,u=>u=Value.bool b
 |.int i,u=>∃t,u=Value.int i t
 |.str x,u=>∃t,u=Value.str x t
 |.byt b,u=>∃t,u=Value.bytes b t
 |.flt b,u=>∃t,u=Value.float b t
 |.ref a,u=>u=Value.ref a
 |.ty n,u=>u=Value.type n
abbrev Vals:List V->List Value->Prop:=Paired RelV
theorem Vals.length{d:List V}{e:List Value}(r:Vals d e):d.length=e.length:=Paired.length r
theorem Vals.get:∀{d:List V}{f:List Value}{i:Nat}{x:V},Vals d f->d[i]? = some x->∃u,f[i]? = some u/\RelV x u
 |_,_,_,_,.nil,e=>by simp at e
 |_,_,0,_,.cons r _,e=>by simp at e;subst e;exact⟨_,rfl,r⟩
 |_,_,i+1,x,.cons _ t,e=>by
  obtain⟨u,g,h⟩:=Vals.get (i:=i) (x:=x) t (by simpa using e)
  exact⟨u,by simpa using g,h⟩
theorem Vals.set{x:V}{u:Value}(r:RelV x u):∀{d:List V}{e:List Value}(i:Nat),Vals d e->Vals (d.set i x) (e.set i u)
 |_,_,_,.nil=>.nil
 |_,_,0,.cons _ t=>.cons r t
 |_,_,i+1,.cons q t=>.cons q (Vals.set r i t)
theorem Vals.append:∀{d e:List V}{f g:List Value},Vals d f->Vals e g->Vals (d++e) (f++g)
 |_,_,_,_,.nil,s=>s
 |_,_,_,_,.cons r t,s=>.cons r (Vals.append t s)
theorem Vals.take:∀{d:List V}{e:List Value}(n:Nat),Vals d e->Vals (d.take n) (e.take n)
 |_,_,0,_=>.nil
 |_,_,_+1,.nil=>.nil
 |_,_,n+1,.cons r t=>.cons r (Vals.take n t)
theorem Vals.drop:∀{d:List V}{e:List Value}(n:Nat),Vals d e->Vals (d.drop n) (e.drop n)
 |_,_,0,r=>r
 |_,_,_+1,.nil=>.nil
 |_,_,n+1,.cons _ t=>Vals.drop n t
def RelO:Option V->Option Value->Prop
 |some v,some u=>RelV v u
 |none,none=>True
 |_,_=>False
def KV{d:Type}:List (d×V)->List (d×Value)->Prop:=Paired λ(p:d×V) (q:d×Value)=>p.1=q.1/\RelV p.2 q.2
def kV:Key->V
 |.inl i=>.int i
 |.inr x=>.str x
inductive HO where
  |lst(xs:List V)
  |tup(xs:List V)
  |dK(kvs:List (Key×V))|dT(kvs:List (List Key×V))
  |set(S:Int->Bool)(n:Nat)
  |ins(C dx:Addr)(fs:List (Str×V))
  |own(x:Addr)
  |xd(fs:List (Str×V))
  |met(f x:Addr)
  |rng(lo hi:Int)
  |frz(o:Obj)(u:HO)
  |tbl(ps:Array Value)
  |ext(φ:Heap->Prop)
abbrev Hp:=Addr->Option HO
def upd(H:Hp)(a:Addr)(o:HO):Hp:=λb=>if b=a then some o else H b
def Bv{H:Hp}{a:Addr}{o:HO}:upd H a o a=some o:=by unfold upd;rw[if_pos rfl]
def Bt{H:Hp}{a b:Addr}{o:HO}(h:b≠a):upd H a o b=H b:=by unfold upd;rw[if_neg h]
def zkq{H:Hp}{a:Addr}{o u:HO}:upd (upd H a o) a u=upd H a u:=by
 funext b;unfold upd;split<;>rfl
def zcn{H:Hp}{a b:Addr}{o:HO}(h:H a=some o)(d:H b=none):a≠b:=by
 intro e;subst e;rw[h] at d;cases d
section
variable(P:Program)(w:World)
def ObjOk(H:Hp)(h:Heap)(a:Addr):HO->Prop
 |.lst g=>g.length<=sizeLine/\∃(d:List Value) (n:Nat),Vals g d/\h.get? a=some {cls:=.type "list",data:=.seq d.toArray n}
 |.tup g=>g.length<=sizeLine/\∃d:List Value,Vals g d/\IsTup h a d.toArray
 |.dK e=>e.length<=sizeLine/\(a == sysModules)=false/\∃z,KV e z/\h.DictOf (zyk P w) a z
 |.dT e=>e.length<=sizeLine/\(a == sysModules)=false/\∃g:List (List Key×Addr×Value),
   Paired (λ(p:List Key×V) (q:List Key×Addr×Value)=>p.1=q.1/\H q.2.1=some (.tup (p.1.map kV))/\RelV p.2 q.2.2) e g /\
   ∃o A E,h.get? a=some o/\o.ExactDict/\o.data=.dict A E/\A.toList=g.map (entryOfKey (tupleKind (zyk P w)))/\(g.map (·.1)).Nodup
 |.set S n=>h.SetOf (intKind P w) a S n
 |.ins C r m=>H r=some (.own a)/\m.length<=1000/\r≠a/\h.get? a=some (PySem.W.instObj C r) /\
   ∃l,h.Ns1 r l/\(∀f,RelO (m.lookup f) (l f))/\PySem.Within l (m.map (·.1))
 |.own _=>∃o,h.get? a=some o
 |.xd m=>∃l,h.Ns1 a l/\∀f,RelO (m.lookup f) (l f)
 |.rng lo F=>∃t u v,h.get? a=some {cls:=.type "range",data:=.fields #[.int lo t,.int F u,.int 1 v]}
 |.frz o u=>h.get? a=some o/\ObjOk H h a u
 |.tbl ps=>h.get? a=some {cls:=.none,data:=.fields ps}
 |.met f x=>h.get? a=some (PySem.W.methodObj (.ref f) (.ref x))
 |.ext s=>s h/\(∃o,h.get? a=some o)/\∀B D:Heap,s B->(∀o,B.get? a=some o->D.get? a=some o)->s D
def HOk(H:Hp)(h:Heap):Prop:=∀a o,H a=some o->ObjOk P w H h a o
end
section
variable{P:Program}{w:World}{H H':Hp}{h h':Heap}{a:Addr}{o:HO}
theorem ObjOk.lt(x:ObjOk P w H h a o):a<h.objs.size:=by
 cases o with
 |lst g=>obtain⟨_,_,_,_,e⟩:=x;exact Zo e
 |tup g=>obtain⟨_,_,_,p⟩:=x;exact p.lt
 |dK d=>obtain⟨_,_,_,_,o,_,_,e,_⟩:=x;exact Zo e
 |dT d=>obtain⟨_,_,_,_,o,_,_,e,_⟩:=x;exact Zo e
 |set S n=>obtain⟨o,_,_,_,e,_⟩:=x;exact Zo e
 |ins C m l=>obtain⟨_,_,_,e,_⟩:=x;exact Zo e
 |own y=>obtain⟨_,e⟩:=x;exact Zo e
 |xd l=>obtain⟨_,⟨_,_,_,e,_⟩,_⟩:=x;exact Zo e
 |rng lo q=>obtain⟨_,_,_,e⟩:=x;exact Zo e
 |frz r u=>obtain⟨e,_⟩:=x;exact Zo e
 |tbl ps=>exact Zo (show h.get? a=some _ from x)
 |met f y=>exact Zo (show h.get? a=some _ from x)
 |ext s=>obtain⟨_,⟨_,e⟩,_⟩:=x;exact Zo e
def Paired.mapP{g l:Type}{F G:g->l->Prop}:∀{d:List g}{e:List l},Paired F d e->(∀a b,F a b->G a b)->Paired G d e:=λh f=>by
 induction h with
 |nil=>exact .nil
 |cons r t m=>exact .cons (f _ _ r) m
def ObjOk.stay(x:ObjOk P w H h a o)(k:∀b u,(b=a\/H b=some (.own a))->h.get? b=some u->h'.get? b=some u)
 (F:∀b,H b=some (.own a)->H' b=some (.own a))(G:∀b A,H b=some (.tup A)->H' b=some (.tup A)):ObjOk P w H' h' a o:=by
 induction o with
 |lst A=>obtain⟨z,s,n,r,e⟩:=x;exact⟨z,s,n,r,k _ _ (.inl rfl) e⟩
 |tup A=>obtain⟨z,s,r,g,e,c⟩:=x;exact⟨z,s,r,g,k _ _ (.inl rfl) e,c⟩
 |dK B=>obtain⟨z,y,I,r,g,l,m,e,c⟩:=x;exact⟨z,y,I,r,g,l,m,k _ _ (.inl rfl) e,c⟩
 |dT B=>
  obtain⟨z,y,A,r,g,l,m,e,c⟩:=x
  exact⟨z,y,A,Paired.mapP r λp q z=>⟨z.1,G _ _ z.2.1,z.2.2⟩,g,l,m,k _ _ (.inl rfl) e,c⟩
 |set S n=>obtain⟨g,l,m,t,e,c⟩:=x;exact⟨g,l,m,t,k _ _ (.inl rfl) e,c⟩
 |ins C N J=>
  obtain⟨d,z,K,e,D,⟨E,l,m,L,c⟩,r⟩:=x
  exact⟨F _ d,z,K,k _ _ (.inl rfl) e,D,⟨E,l,m,k _ _ (.inr d) L,c⟩,r⟩
 |own y=>obtain⟨g,e⟩:=x;exact⟨g,k _ _ (.inl rfl) e⟩
 |xd J=>obtain⟨D,⟨E,l,m,e,c⟩,r⟩:=x;exact⟨D,⟨E,l,m,k _ _ (.inl rfl) e,c⟩,r⟩
 |rng lo O=>obtain⟨t,u,v,e⟩:=x;exact⟨t,u,v,k _ _ (.inl rfl) e⟩
 |frz g u M=>obtain⟨e,q⟩:=x;exact⟨k _ _ (.inl rfl) e,M q⟩
 |tbl ps=>
  have e:h.get? a=some {cls:=.none,data:=.fields ps}:=x;show h'.get? a=some {cls:=.none,data:=.fields ps};exact k a _ (.inl rfl) e
 |met f y=>
  have e:h.get? a=some (PySem.W.methodObj (.ref f) (.ref y)):=x;show h'.get? a=some (PySem.W.methodObj (.ref f) (.ref y));exact k a _ (.inl rfl) e
 |ext Q=>obtain⟨p,⟨o,e⟩,st⟩:=x;exact⟨st _ _ p λo q=>k _ _ (.inl rfl) q,⟨o,k _ _ (.inl rfl) e⟩,st⟩
theorem HOk.lt(x:HOk P w H h)(e:H a=some o):a<h.objs.size:=(x a o e).lt
def HOk.fresh(x:HOk P w H h)(e:h.objs.size<=a):H a=none:=by
 cases q:H a with
 |none=>rfl
 |some u=>exact absurd (Zf (x.lt q) e) (Wq _)
def HOk.kept(x:HOk P w H h)(k:∀b u,h.get? b=some u->h'.get? b=some u):HOk P w H h':=λa o e=>
 (x a o e).stay (λb u _ q=>k b u q) (λ_ q=>q) λ_ _ q=>q
def HOk.laid(x:HOk P w H h)(k:∀b u,h.get? b=some u->h'.get? b=some u)(l:h.objs.size<=a)(d:ObjOk P w (upd H a o) h' a o):HOk P w (upd H a o) h':=λb u e=>by
 have f:=x.fresh l;by_cases g:b=a
 ·subst g;rw[Bv] at e;cases e;exact d
 ·rw[Bt g] at e;exact(x b u e).stay (λc v _ q=>k c v q) (λc q=>by rw[Bt (zcn q f)];exact q) λc m q=>by rw[Bt (zcn q f)];exact q
end
def Rd(H:Hp)(a:Addr)(u:HO):Prop:=H a=some u\/∃o,H a=some (.frz o u)
def Rd.ok{P:Program}{w:World}{H:Hp}{h:Heap}{a:Addr}{u:HO}(r:Rd H a u)(x:HOk P w H h):ObjOk P w H h a u:=by
 rcases r with r|⟨o,r⟩
 ·exact x a u r
 ·obtain⟨_,q⟩:=x a _ r
  exact q
def Mut:Option HO->Prop
 |some (.lst _)=>True
 |some (.dK _)=>True
 |some (.dT _)=>True
 |some (.set _ _)=>True
 |some (.ins _ _ _)=>True
 |some (.ext _)=>True
 |_=>False
section
variable{P:Program}{w:World}{H:Hp}{h h':Heap}{x e:Addr}{o':HO}
def HOk.write(ok:HOk P w H h)(l:Mut (H x))(t:e=x\/H e=some (.own x))(k:∀b u,b≠e->h.get? b=some u->h'.get? b=some u)(p:∃u,h'.get? e=some u)
 (s:ObjOk P w (upd H x o') h' x o'):HOk P w (upd H x o') h':=λb u q=>by
 have f:∀c y,H c=some (.own y)->c≠x:=λc y r z=>by subst z;rw[r] at l;exact l
 have g:∀c m,H c=some (.tup m)->c≠x:=λc m r z=>by subst z;rw[r] at l;exact l
 by_cases n:b=x
 ·subst n;rw[Bv] at q;cases q;exact s
 ·rw[Bt n] at q;by_cases d:b=e
  ·have A:H b=some (.own x):=by
    rcases t with z|z
    ·exact absurd (d.trans z) n
    ·rw[d];exact z
   rw[q] at A;cases A;obtain⟨v,B⟩:=p
   exact⟨v,by rw[d];exact B⟩
  ·refine(ok b u q).stay (λc v o r=>k c v ?_ r) (λc r=>by rw[Bt (f c b r)];exact r) λc m r=>by rw[Bt (g c m r)];exact r
   rcases o with rfl|o
   ·exact d
   ·rintro rfl
    rcases t with z|z
    ·exact f c b o z
    ·rw[o] at z;cases z;exact n rfl
end
structure Un(fs ex:List Addr)(H H':Hp)(h h':Heap):Prop where
 keep:∀b o,h.get? b=some o->H b=none->b∉fs->b∉ex->h'.get? b=some o
 slot:∀b o,h.get? b=some o->H b=none->b∈fs->b∉ex->∃sl,h'.get? b=some {o with slots:=sl}
 free:∀b o,h.get? b=some o->H b=none->b∉ex->H' b=none
 there:∀b o,h.get? b=some o->b∉ex->∃o',h'.get? b=some o'
 tups:∀b xs,H b=some (.tup xs)->H' b=some (.tup xs)
 frzs:∀b o u,H b=some (.frz o u)->H' b=some (.frz o u)
 tbls:∀b ps,H b=some (.tbl ps)->∃more,H' b=some (.tbl (ps++more))
section
variable{fs fs' ex ex':List Addr}{H H1 H2:Hp}{h h1 h2 h':Heap}{a x e:Addr}{o:HO}
def Un.any(u:Un fs ex H H1 h h1){b:Addr}{d:Obj}(q:h.get? b=some d)(n:H b=none)(e:b∉ex):∃g,h1.get? b=some {d with slots:=g}:=by
 by_cases f:b∈fs
 ·exact u.slot b d q n f e
 ·exact⟨d.slots,u.keep b d q n f e⟩
def Un.kept(k:∀b u,h.get? b=some u->h'.get? b=some u):Un fs ex H H h h':=
 ⟨λb d q _ _ _=>k b d q,λb d q _ _ _=>⟨d.slots,k b d q⟩,λ_ _ _ n _=>n,λb d q _=>⟨d,k b d q⟩,λ_ _ q=>q,λ_ _ _ q=>q,λ_ e q=>⟨#[],by rw[q];simp⟩⟩
def Un.refl:Un fs ex H H h h:=Un.kept λ_ _ q=>q
def Un.laid(k:∀b u,h.get? b=some u->h'.get? b=some u)(e:h.objs.size<=a)(d:H a=none):Un fs ex H (upd H a o) h h' where
 keep:=λb u q _ _ _=>k b u q
 slot:=λb u q _ _ _=>⟨u.slots,k b u q⟩
 free:=λb u q n _=>by rw[Bt (Yi (Zf (Zo q) e))];exact n
 there:=λb u q _=>⟨u,k b u q⟩
 tups:=λb f q=>by rw[Bt (zcn q d)];exact q
 frzs:=λb u f q=>by rw[Bt (zcn q d)];exact q
 tbls:=λb g q=>⟨#[],by rw[Bt (zcn q d),q];simp⟩
def Un.write(f:Mut (H x))(s:e=x\/H e=some (.own x))(k:∀b u,b≠e->h.get? b=some u->h'.get? b=some u)(g:∃u,h'.get? e=some u):Un fs ex H (upd H x o) h h':=by
 have m:∀b,H b=none->b≠x:=λb n z=>by subst z;rw[n] at f;exact f
 have p:∀b,H b=none->b≠e:=λb n z=>by
  subst z;rcases s with r|r
  ·exact m b n r
  ·rw[n] at r;cases r
 have l:∀b u,H b=some u -> ¬Mut (some u)->b≠x:=λb u q t z=>by subst z;rw[q] at f;exact t f
 refine⟨λb u q n _ _=>k b u (p b n) q,λb u q n _ _=>⟨u.slots,k b u (p b n) q⟩,λb u q n _=>by rw[Bt (m b n)];exact n,λb u q _=>?_,
  λb v q=>by rw[Bt (l b _ q λz=>z)];exact q,λb u v q=>by rw[Bt (l b _ q λz=>z)];exact q,λb w q=>⟨#[],by rw[Bt (l b _ q λz=>z),q];simp⟩⟩
 by_cases d:b=e
 ·subst d;exact g
 ·exact⟨u,k b u d q⟩
end
def trk(h:Heap)(H:Hp):List Addr:=(List.range h.objs.size).filter λa=>(H a).isSome
def hidT(h:Heap)(H:Hp):Heap:=PySem.W.hideAll h (trk h H)
def zzd(h:Heap)(H:Hp):(hidT h H).objs.size=h.objs.size:=PySem.W.hideAll_size _ _
def yev{h:Heap}{H:Hp}{b:Addr}{o:Obj}(e:h.get? b=some o)(n:H b=none):(hidT h H).get? b=some o:=
 PySem.W.hideAll_get _ e λd=>by
  have q:(H b).isSome=true:=(K5.mp d).2;rw[n] at q;simp at q
def ylp{h:Heap}{H:Hp}{b:Addr}{o:Obj}(e:(hidT h H).get? b=some o):h.get? b=some o/\H b=none:=by
 have d:h.get? b=some o:=PySem.W.of_hideAll (trk h H) e;refine⟨d,?_⟩
 cases q:H b with
 |none=>rfl
 |some x=>
  have f:b∈trk h H:=K5.mpr ⟨Yw.mpr (Zo d),by simp[q]⟩;have z:(hidT h H).get? b=none:=PySem.W.hideAll_none (trk h H) f;rw[z] at e;cases e
end L2
namespace L2
open PySem PySem.Spec PyProof.Rows
structure Mod(K:vE)(mg:Str->Option Value)(base:Heap):Prop where
 kin:K.In base
 glob:base.Ns mainGlobals mg
 blt:∃mb,base.Ns builtinsNs mb/\∀x:Str,x ≠ "__name__" -> mb x=bootBuiltins x
 nolimit:base.NoLimit
structure Cx where
 prog:Program
 w:World
 K:vE
 mg:Str->Option Value
 base:Heap
 A:Around
 N:List Str
 s₀:Shared
 H₀:Hp
 env:Env
 outer:List Env
 stack:List Env
 ex:List Addr
 fn:Str->Bool
 calm:Bool
 pn:List (Addr×Obj)
 xe:Value->Shared->Prop
def frs(l:List Env):List Addr:=l.filterMap (·.frame)
abbrev Cx.fs(X:Cx):List Addr:=frs X.outer
def Vis(sc:Scope)(x:Str):Prop:=sc.names.lookup x=some .local\/sc.names.lookup x=some .cell\/sc.names.lookup x=some .free
def Loc(sc:Scope)(x:Str):Prop:=sc.names.lookup x=some .local\/sc.names.lookup x=some .cell
def Look(env:Env)(h:Heap)(m:Str->Option Value)(x:Str)(u:Value):Prop:=
 (env.kindOf x=some .local/\m x=some u)\/((env.kindOf x=some .cell\/env.kindOf x=some .free)/\∃c,env.cells.lookup x=some c/\h.IsCell c (some u))
structure Cx.Ok(X:Cx):Prop where
 mod:Mod X.K X.mg X.base
 kind:X.env.scope.kind=.function
 glob:X.env.globals=mainGlobals
 blt:X.env.builtins=builtinsNs
 above:X.s₀.heap.objs.size<=X.env.locals
 inj:∀x y c,X.env.cells.lookup x=some c->X.env.cells.lookup y=some c->x=y
 has:∀x,(X.env.kindOf x=some .cell\/X.env.kindOf x=some .free)->∃c,X.env.cells.lookup x=some c
 cab:∀x c,X.fn x=true->X.env.cells.lookup x=some c->X.s₀.heap.objs.size<=c
 hd:X.calm=true->X.A.handled=none
 frames:X.A.frames=some X.stack
 stk:X.stack=X.outer\/(X.stack=X.env::X.outer/\X.env.frame=some X.env.locals)
 exf:∀b∈X.ex,b≠X.env.locals/\∀x c,X.env.cells.lookup x=some c->c≠b
 bs:∀b o,X.base.get? b=some o->X.s₀.heap.get? b=some o/\X.H₀ b=none
 bsz:X.base.objs.size<=X.s₀.heap.objs.size
 noex:∀b o,X.base.get? b=some o->b∉X.ex
 exfs:∀b∈X.ex,b∉X.fs
 funs:X.s₀.heap.FunFrames X.base X.outer
 frf:∀b∈X.fs,X.H₀ b=none
structure Inv(X:Cx)(pins:List (Addr×Obj))(σ:List (Option V))(H:Hp)(s:Shared):Prop where
 ok:X.Ok
 os:s.os=X.s₀.os
 bare:AllBare s.gens
 base:Un X.fs X.ex X.H₀ H X.s₀.heap s.heap
 loc:∃m,s.heap.Ns X.env.locals m/\∀(i:Nat) (x:Str) (v:V),X.N[i]? = some x->σ[i]? = some (some v)->Vis X.env.scope x->∃u,RelV v u/\Look X.env s.heap m x u
 cell:∀x c,X.env.cells.lookup x=some c->∃v,s.heap.IsCell c v
 free:H X.env.locals=none
 freeC:∀x c,X.env.cells.lookup x=some c->H c=none
 pin:∀p∈X.pn++pins,s.heap.get? p.1=some p.2/\H p.1=none/\p.1≠X.env.locals/\p.1∉X.fs/\∀v,p.2.data ≠ .cell v
 hok:HOk X.prog X.w H s.heap
 len:σ.length=X.N.length
section
variable{X:Cx}{pins:List (Addr×Obj)}{σ:List (Option V)}{H H':Hp}{s:Shared}{h':Heap}
def Cx.Ok.nofr(ok:X.Ok){b:Addr}{o:Obj}(e:X.base.get? b=some o):b∉X.fs:=λd=>by
 have:=(ok.funs.mem d).1
 rw[e] at this;cases this
theorem Inv.bs(I:Inv X pins σ H s):∀b o,X.base.get? b=some o->s.heap.get? b=some o/\H b=none:=λb o e=>
 ⟨I.base.keep b o (I.ok.bs b o e).1 (I.ok.bs b o e).2 (I.ok.nofr e) (I.ok.noex b o e),I.base.free b o (I.ok.bs b o e).1 (I.ok.bs b o e).2 (I.ok.noex b o e)⟩
def Inv.bk(I:Inv X pins σ H s):∀b o,X.base.get? b=some o->s.heap.get? b=some o:=λb o e=>(I.bs b o e).1
theorem Inv.mod(I:Inv X pins σ H s):Mod X.K X.mg X.base:=I.ok.mod
def Inv.kIn(I:Inv X pins σ H s):X.K.In s.heap:=I.ok.mod.kin.keeps I.bk
theorem Inv.lt(I:Inv X pins σ H s):X.env.locals<s.heap.objs.size:=let ⟨_,d,_⟩:=I.loc;d.lt
def Inv.sz(I:Inv X pins σ H s):X.s₀.heap.objs.size<=s.heap.objs.size:=Wc I.ok.above (U6 I.lt)
def Inv.nofs(I:Inv X pins σ H s){a:Addr}(h:s.heap.objs.size<=a):a∉X.fs:=λd=>by
 obtain⟨_,o,e,_⟩:=I.ok.funs.mem d
 exact absurd (Zf (Zo e) (Wc I.sz h)) (Wq _)
def Inv.cne(I:Inv X pins σ H s):∀x c,X.env.cells.lookup x=some c->c≠X.env.locals:=λx c e z=>by
 obtain⟨v,o,g,h⟩:=I.cell x c e
 obtain⟨m,⟨l,n,p,d,f,_⟩,_⟩:=I.loc
 rw[z,d] at g;cases g;rw[f] at h;cases h
theorem Inv.funs(I:Inv X pins σ H s):s.heap.FunFrames X.base X.outer:=by
 have all:∀(l:List Env),(∀b∈frs l,b∈X.fs)->X.s₀.heap.FunFrames X.base l->s.heap.FunFrames X.base l:=by
  intro l;induction l with
  |nil=>intro _ _;trivial
  |cons m r n=>
   intro h p;obtain⟨q,⟨L,o,d,t,u,v⟩,w⟩:=p
   have f:L∈X.fs:=h L (by unfold frs;rw[K8,d];exact Wu);obtain⟨A,e⟩:=I.base.slot L o u (I.ok.frf L f) f λz=>I.ok.exfs L z f
   exact⟨q,⟨L,_,d,t,e,v⟩,n (λb g=>h b (by unfold frs;rw[K8,d];exact Y0 _ g)) w⟩
 exact all X.outer (λ_ g=>g) I.ok.funs
theorem Inv.stack(I:Inv X pins σ H s):s.heap.FunFrames X.base X.stack:=by
 rcases I.ok.stk with e|⟨e,d⟩
 ·rw[e];exact I.funs
 ·rw[e];obtain⟨m,f,_⟩:=I.loc
  refine .cons (by rw[I.ok.kind];decide) d f ?_ I.funs;exact Ue (Wc I.ok.bsz I.ok.above)
def Inv.stkSub(I:Inv X pins σ H s):∀b∈frs X.stack,b∈X.env.locals::X.fs:=λb d=>by
 rcases I.ok.stk with e|⟨e,f⟩
 ·rw[e] at d;exact Y0 _ d
 ·rw[e] at d;unfold frs at d;rw[K8,f] at d;exact d
def Inv.stkFree(I:Inv X pins σ H s):∀b∈frs X.stack,H b=none:=λb hb=>by
 rcases Zg.mp (I.stkSub b hb) with e|hb
 ·rw[e];exact I.free
 ·obtain⟨_,o,d,_⟩:=I.ok.funs.mem hb
  exact I.base.free b o d (I.ok.frf b hb) λz=>I.ok.exfs b z hb
def Inv.step{g':Array GenState}{Z:Nat}{d':Drawn}{ch:List Addr}(I:Inv X pins σ H s)
 (g:∀b∈ch,(b∈X.ex\/X.s₀.heap.objs.size<=b)/\b≠X.env.locals/\(∀x c,X.env.cells.lookup x=some c->c≠b)/\∀p∈X.pn++pins,p.1≠b)
 (h:∀b o,b≠X.env.locals->b∉X.fs->b∉ch->s.heap.get? b=some o->H b=none->h'.get? b=some o)
 (slot:∀b o,b≠X.env.locals->b∈X.fs->b∉ch->s.heap.get? b=some o->H b=none->∃R,h'.get? b=some {o with slots:=R})(free:∀b o,b∉ch->s.heap.get? b=some o->H b=none->H' b=none)
 (E:∀b o,b∉ch->s.heap.get? b=some o->∃J,h'.get? b=some J)
 (K:∀b D,H b=some (.tup D)->H' b=some (.tup D))(L:∀b o u,H b=some (.frz o u)->H' b=some (.frz o u))(M:∀b Q,H b=some (.tbl Q)->∃N,H' b=some (.tbl (Q++N)))
 (ns:∀m,s.heap.Ns X.env.locals m->h'.Ns X.env.locals m)(hok:HOk X.prog X.w H' h')(hg:AllBare g'):
  Inv X pins σ H' {s with heap:=h',gens:=g',drawn:=d',toks:=Z}:=by
 have O:∀b o,X.s₀.heap.get? b=some o->b≠X.env.locals:=λb o e=>Yi (Zf (Zo e) I.ok.above)
 have B:∀b o,X.s₀.heap.get? b=some o->b∉X.ex->b∉ch:=λb o e f F=>by
  rcases(g b F).1 with z|z
  ·exact f z
  ·exact absurd (Zf (Zo e) z) (Wq _)
 have t:∀x c,X.env.cells.lookup x=some c->∀v,s.heap.IsCell c v->h'.IsCell c v:=λx c e v ⟨o,G,S⟩=>by
  have A:c∉ch:=λz=>(g c z).2.2.1 x c e rfl
  by_cases U:c∈X.fs
  ·obtain⟨R,q⟩:=slot c o (I.cne x c e) U A G (I.freeC x c e)
   exact⟨_,q,S⟩
  ·exact⟨o,h c o (I.cne x c e) U A G (I.freeC x c e),S⟩
 refine⟨I.ok,I.os,hg,⟨λb o e n F f=>?_,λb o e n F f=>?_,λb o e n f=>?_,λb o e f=>?_,λb D e=>K b D (I.base.tups b D e),λb o D e=>L b o D (I.base.frzs b o D e),λb Q e=>?_⟩,?_,λx c e=>?_,?_,λx c e=>?_,λp V=>?_,hok,I.len⟩
 ·exact h b o (O b o e) F (B b o e f) (I.base.keep b o e n F f) (I.base.free b o e n f)
 ·obtain⟨R,C⟩:=I.base.slot b o e n F f
  obtain⟨T,P⟩:=slot b _ (O b o e) F (B b o e f) C (I.base.free b o e n f)
  exact⟨T,P⟩
 ·obtain⟨J,C⟩:=I.base.there b o e f
  exact free b J (B b o e f) C (I.base.free b o e n f)
 ·obtain⟨J,C⟩:=I.base.there b o e f
  exact E b J (B b o e f) C
 ·obtain⟨m1,C⟩:=I.base.tbls b Q e
  obtain⟨m2,P⟩:=M b _ C
  exact⟨m1++m2,by rw[P,Array.append_assoc]⟩
 ·obtain⟨m,hn,hl⟩:=I.loc
  refine⟨m,ns m hn,λi x v C P e3=>?_⟩
  obtain⟨u,r,l⟩:=hl i x v C P e3
  refine⟨u,r,?_⟩
  rcases l with l|⟨k,c,e,z⟩
  ·exact .inl l
  ·exact .inr ⟨k,c,e,t x c e _ z⟩
 ·obtain⟨v,z⟩:=I.cell x c e
  exact⟨v,t x c e v z⟩
 ·obtain⟨m,⟨o,_,_,G,_⟩,_⟩:=I.loc
  exact free _ o (λz=>(g _ z).2.1 rfl) G I.free
 ·obtain⟨v,o,G,S⟩:=I.cell x c e
  exact free c o (λz=>(g c z).2.2.1 x c e rfl) G (I.freeC x c e)
 ·obtain⟨e,n,W,Y,d⟩:=I.pin p V
  have A:p.1∉ch:=λz=>(g p.1 z).2.2.2 p V rfl
  exact⟨h p.1 p.2 W Y A e n,free p.1 p.2 A e n,W,Y,d⟩
def Inv.un{t':Nat}(I:Inv X pins σ H s)(u:Un X.fs [] H H' s.heap h')(hok:HOk X.prog X.w H' h'):Inv X pins σ H' {s with heap:=h',toks:=t'}:=by
 obtain⟨m,⟨o,v,A,l,r⟩,_⟩:=id I.loc
 obtain⟨B,p⟩:=u.any l I.free vC
 exact I.step (g':=s.gens) (d':=s.drawn) (ch:=[]) (λ_ z=>nomatch z) (λb o _ f _ e n=>u.keep b o e n f vC) (λb o _ f _ e n=>u.slot b o e n f vC) (λb o _ e n=>u.free b o e n vC) (λb o _ e=>u.there b o e vC) u.tups u.frzs u.tbls (λC q=>by
  obtain⟨D,g,h,d,t⟩:=q
  rw[l] at d;cases d;exact⟨_,g,h,p,t⟩) hok I.bare
def Inv.call{g':Array GenState}{t':Nat}{d':Drawn}{ch:List Addr}(I:Inv X pins σ H s)(u:Un (frs X.stack) ch H H' s.heap h')(hok:HOk X.prog X.w H' h')(v:AllBare g')
 (f:∀b∈ch,(b∈X.ex\/X.s₀.heap.objs.size<=b)/\b≠X.env.locals/\(∀x c,X.env.cells.lookup x=some c->c≠b)/\∀p∈X.pn++pins,p.1≠b):
  Inv X pins σ H' {s with heap:=h',gens:=g',drawn:=d',toks:=t'}:=by
 obtain⟨m,⟨o,D,E,t,r⟩,_⟩:=id I.loc
 obtain⟨F,h⟩:=u.any t I.free λz=>(f _ z).2.1 rfl
 exact I.step (ch:=ch) f (λb o h A d e n=>u.keep b o e n (λz=>(Zg.mp (I.stkSub b z)).elim h A) d) (λb o _ _ d e n=>u.any e n d) (λb o d e n=>u.free b o e n d) (λb o d e=>u.there b o e d) u.tups u.frzs u.tbls (λG B=>by
  obtain⟨J,l,q,g,C⟩:=B
  rw[t] at g;cases g;exact⟨_,l,q,h,C⟩) hok v
def Inv.turned{t':Nat}{d:Addr}(I:Inv X pins σ H s)(k:∀b o,b≠d->s.heap.get? b=some o->h'.get? b=some o)(l:H d=none)(h:d≠X.env.locals)
 (t:d∈X.ex\/X.s₀.heap.objs.size<=d)(w:∀x c,X.env.cells.lookup x=some c->c≠d)(A:∀p∈X.pn++pins,p.1≠d):Inv X pins σ H {s with heap:=h',toks:=t'}:=by
 have g:∀b u,H b=some u->b≠d:=λb u e z=>by rw[z,l] at e;cases e
 refine I.step (g':=s.gens) (d':=s.drawn) (ch:=[d]) (λb B=>?_) (λb o _ _ f e _=>k b o (λz=>f (by simp[z])) e) (λb o _ _ f e _=>⟨o.slots,k b o (λz=>f (by simp[z])) e⟩) (λ_ _ _ _ n=>n)
  (λb o f e=>⟨o,k b o (λz=>f (by simp[z])) e⟩) (λ_ _ e=>e) (λ_ _ _ e=>e) (λb G e=>⟨#[],by rw[e];simp⟩) (λm C=>?_) (λb u e=>?_) I.bare
 ·have e:b=d:=by simpa using B
  subst e;exact⟨t,h,w,A⟩
 ·obtain⟨o,D,E,F,r⟩:=C
  exact⟨o,D,E,k _ o (Wz h) F,r⟩
 ·refine(I.hok b u e).stay (λc v f q=>k c v ?_ q) (λ_ q=>q) λ_ _ q=>q
  rcases f with z|z
  ·rw[z];exact g b u e
  ·exact g c _ z
def Inv.tok(I:Inv X pins σ H s)(t:Nat):Inv X pins σ H {s with toks:=t}:=I.un (h':=s.heap) (t':=t) Un.refl I.hok
theorem Inv.kept{t':Nat}(I:Inv X pins σ H s)(k:∀b u,s.heap.get? b=some u->h'.get? b=some u):Inv X pins σ H {s with heap:=h',toks:=t'}:=I.un (Un.kept k) (I.hok.kept k)
theorem Inv.laid{a:Addr}{o:HO}{t':Nat}(I:Inv X pins σ H s)(k:∀b u,s.heap.get? b=some u->h'.get? b=some u)(d:s.heap.objs.size<=a)(e:ObjOk X.prog X.w (upd H a o) h' a o):
  Inv X pins σ (upd H a o) {s with heap:=h',toks:=t'}:=I.un (Un.laid k d (I.hok.fresh d)) (I.hok.laid k d e)
theorem Inv.write{x e:Addr}{o:HO}{l:Nat}(I:Inv X pins σ H s)(g:Mut (H x))(h:e=x\/H e=some (.own x))(k:∀b u,b≠e->s.heap.get? b=some u->h'.get? b=some u)(d:∃u,h'.get? e=some u)
 (f:ObjOk X.prog X.w (upd H x o) h' x o):Inv X pins σ (upd H x o) {s with heap:=h',toks:=l}:=I.un (Un.write g h k d) (I.hok.write g h k d f)
def Inv.pins_of{d:List (Addr×Obj)}(I:Inv X pins σ H s)(h:∀p∈d,s.heap.get? p.1=some p.2/\H p.1=none/\p.1≠X.env.locals/\p.1∉X.fs/\∀v,p.2.data ≠ .cell v):Inv X d σ H s:=
 ⟨I.ok,I.os,I.bare,I.base,I.loc,I.cell,I.free,I.freeC,λp e=>(Y6.mp e).elim (λz=>I.pin p (Kb _ z)) (h p),I.hok,I.len⟩
def zsf{N:List Str}(d:N.Nodup){i j:Nat}{x:Str}(a:N[i]? = some x)(b:N[j]? = some x):i=j:=by
 obtain⟨g,e⟩:=Zm.mp a
 obtain⟨h,f⟩:=Zm.mp b
 exact(Kl d).mp (e.trans f.symm)
def zms{M:Model}{A:Around}{E:Value->Shared->Prop}{i:Nat}{x:Str}{v:V}{u:Value}{Q:Unit->Shared->Prop}(I:Inv X pins σ H s)(hN:X.N.Nodup)(P:X.N[i]? = some x)(B:Loc X.env.scope x)(r:RelV v u)
 (h:∀s',Inv X pins (σ.set i (some v)) H s'->(∃a,Heap.SameBut a s.heap s'.heap/\(a=X.env.locals\/X.env.cells.lookup x=some a))->Q () s')(hf:X.fn x=true\/X.env.scope.names.lookup x=some .local:=by first|exact .inl rfl|exact .inr rfl|assumption):wpAny M A (storeName X.env x u) Q E s:=by
 obtain⟨m,hn,hl⟩:=id I.loc
 have R:(X.env.scope.kind == .class || (X.env.scope.kind == .module && X.env.locals != X.env.globals))=false:=by rw[I.ok.kind];rfl
 have F:i<σ.length:=by rw[I.len];exact(Zm.mp P).1
 have J:=I.cne;have g:∀{a:Addr}{h':Heap},(∃o,s.heap.get? a=some o/\H a=none)->Heap.SameBut a s.heap h'->HOk X.prog X.w H h':=λ{a h'} ha f b ob e=>by
  obtain⟨_,_,C⟩:=ha
  refine(I.hok b ob e).stay (λc Y t q=>(f.2 c ?_).trans q) (λ_ q=>q) λ_ _ q=>q
  rintro rfl
  rcases t with rfl|t
  ·rw[C] at e;cases e
  ·rw[C] at t;cases t
 rcases B with G|G
 ·refine wpAny_storeName_local G hn (λh' a0 f=>?_) R;obtain⟨oL,_,_,a1,_⟩:=id hn
  refine h _ ⟨I.ok,I.os,I.bare,⟨λb o e n K B=>?_,λb o e n K B=>?_,I.base.free,λb o e B=>?_,I.base.tups,I.base.frzs,I.base.tbls⟩,⟨_,a0,λj y v' l D e3=>?_⟩,λy c e=>?_,I.free,I.freeC,λp hp=>?_,g ⟨oL,a1,I.free⟩ f,by simpa using I.len⟩ ⟨_,f,.inl rfl⟩
  ·exact(f.2 b (Yi (Zf (Zo e) I.ok.above))).trans (I.base.keep b o e n K B)
  ·obtain⟨sl,l⟩:=I.base.slot b o e n K B
   exact⟨sl,(f.2 b (Yi (Zf (Zo e) I.ok.above))).trans l⟩
  ·obtain⟨o',l⟩:=I.base.there b o e B
   exact⟨o',(f.2 b (Yi (Zf (Zo e) I.ok.above))).trans l⟩
  ·by_cases L:j=i
   ·subst L;rw[P] at l;cases l;rw[Yy F] at D;cases D;exact⟨u,r,.inl ⟨G,by simp⟩⟩
   ·rw[Yl (Wz L)] at D;obtain⟨u',r',q⟩:=hl j y v' l D e3
    refine⟨u',r',?_⟩
    rcases q with⟨k,e⟩|⟨k,c,e,z⟩
    ·refine .inl ⟨k,?_⟩;have:y≠x:=λe=>L (zsf hN l (e ▸ P))
     simp[this,e]
    ·exact .inr ⟨k,c,e,z.sameBut f (J y c e)⟩
  ·obtain⟨Y,z⟩:=I.cell y c e
   exact⟨Y,z.sameBut f (J y c e)⟩
  ·obtain⟨e,n,Z,nf,d⟩:=I.pin p hp
   exact⟨(f.2 p.1 Z).trans e,n,Z,nf,d⟩
 ·have O:X.fn x=true:=by
   rcases hf with z|z
   ·exact z
   ·rw[z] at G;cases G
  obtain⟨c,t⟩:=I.ok.has x (.inl G)
  obtain⟨Y,z⟩:=I.cell x c t
  refine wpAny_storeName_cell I.ok.kind G t z (λh' S f=>?_);obtain⟨oc,T,U⟩:=id z
  refine h {s with heap:=h'} ⟨I.ok,I.os,I.bare,⟨λb o e n K B=>?_,λb o e n K B=>?_,I.base.free,λb o e B=>?_,I.base.tups,I.base.frzs,I.base.tbls⟩,⟨m,hn.sameBut f (Wz (J x c t)),λj y v' l D e3=>?_⟩,λy c' e=>?_,I.free,I.freeC,λp hp=>?_,g ⟨oc,T,I.freeC x c t⟩ f,by simpa using I.len⟩ ⟨c,f,.inr t⟩
  ·exact(f.2 b (Yi (Zf (Zo e) (I.ok.cab x c O t)))).trans (I.base.keep b o e n K B)
  ·obtain⟨sl,l⟩:=I.base.slot b o e n K B
   exact⟨sl,(f.2 b (Yi (Zf (Zo e) (I.ok.cab x c O t)))).trans l⟩
  ·obtain⟨o',l⟩:=I.base.there b o e B
   exact⟨o',(f.2 b (Yi (Zf (Zo e) (I.ok.cab x c O t)))).trans l⟩
  ·by_cases L:j=i
   ·subst L;rw[P] at l;cases l;rw[Yy F] at D;cases D;exact⟨u,r,.inr ⟨.inl G,c,t,S⟩⟩
   ·rw[Yl (Wz L)] at D;obtain⟨u',r',q⟩:=hl j y v' l D e3
    refine⟨u',r',?_⟩
    rcases q with q|⟨k,c',e,z'⟩
    ·exact .inl q
    ·refine .inr ⟨k,c',e,z'.sameBut f ?_⟩;rintro rfl
     exact L (zsf hN l (I.ok.inj _ _ _ e t ▸ P))
  ·by_cases W:c'=c
   ·subst W;exact⟨_,S⟩
   ·obtain⟨w2,z2⟩:=I.cell y c' e
    exact⟨w2,z2.sameBut f W⟩
  ·obtain⟨e,n,Z,nf,d⟩:=I.pin p hp
   refine⟨(f.2 p.1 ?_).trans e,n,Z,nf,d⟩
   intro q;rw[q,T] at e;have q':oc=p.2:=Zw e;exact d Y (by rw[<-q'];exact U)
def zhc{M:Model}{A:Around}{E:Value->Shared->Prop}{i:Nat}{x:Str}{v:V}{u:Value}{Q:Unit->Shared->Prop}(I:Inv X pins σ H s)(e:X.N.Nodup)(f:X.N[i]? = some x)(g:Loc X.env.scope x)(r:RelV v u)
 (h:∀d,Inv X pins (σ.set i (some v)) H d->Q () d)(l:X.fn x=true\/X.env.scope.names.lookup x=some .local:=by first|exact .inl rfl|exact .inr rfl|assumption):wpAny M A (storeName X.env x u) Q E s:=
 zms I e f g r (λd m _=>h d m) l
def Inv.call'{d:Shared}{ch:List Addr}(I:Inv X pins σ H s)(g:d.os=s.os)(u:Un (frs X.stack) ch H H' s.heap d.heap)(hok:HOk X.prog X.w H' d.heap)(h:AllBare d.gens)
 (f:∀b∈ch,(b∈X.ex\/X.s₀.heap.objs.size<=b)/\b≠X.env.locals/\(∀x c,X.env.cells.lookup x=some c->c≠b)/\∀p∈X.pn++pins,p.1≠b):Inv X pins σ H' d:=by
 obtain⟨h',g',d',t',l⟩:=d
 have e:l=s.os:=g;subst e;exact I.call (g':=g') (t':=t') (d':=d') u hok h f
end
abbrev XK:=Value->Option Addr->Hp->Prop
abbrev St:=List (Option V)
abbrev VK:=V->Hp->Prop
abbrev TE:=St->Hp->VK->Prop
abbrev TT:=St->Hp->(Bool->Hp->Prop)->Prop
abbrev TA:=St->Hp->(List V->Hp->Prop)->Prop
structure Ends where
 nx:St->Hp->Prop
 rt:VK
 bk:St->Hp->Prop:=λ_ _=>False
 ct:St->Hp->Prop:=λ_ _=>False
abbrev TS:=Ends->St->Hp->Prop
def EP(X:Cx)(d:List (Addr×Obj))(f:St)(Q:VK)(u:Value)(g:Shared):Prop:=∃v e,Inv X d f e g/\RelV v u/\Q v e
def TP(X:Cx)(d:List (Addr×Obj))(f:St)(Q:Bool->Hp->Prop)(b:Bool)(g:Shared):Prop:=∃e,Inv X d f e g/\Q b e
def AP(X:Cx)(d:List (Addr×Obj))(g:St)(Q:List V->Hp->Prop)(h:List Value)(l:Shared):Prop:=∃e f,Inv X d g f l/\Vals e h/\Q e f
def SP(X:Cx)(e:List (Addr×Obj))(D:Ends)(f:Flow)(h:Shared):Prop:=
 match f with
 |.next=>∃d g,Inv X e d g h/\D.nx d g
 |.brk=>∃d g,Inv X e d g h/\D.bk d g
 |.cont=>∃d g,Inv X e d g h/\D.ct d g
 |.ret u=>∃v d g,Inv X e d g h/\RelV v u/\D.rt v g
def PE(X:Cx)(e:Expr)(t:TE):Prop:=
 ∀(d:List (Addr×Obj)) (s:Shared) (f:St) (H:Hp) (Q:VK),Inv X d f H s->t f H Q->wpAny (model X.prog X.w) X.A (eval e X.env) (EP X d f Q) X.xe s
def PT(X:Cx)(e:Expr)(t:TT):Prop:=
 ∀(d:List (Addr×Obj)) (s:Shared) (f:St) (H:Hp) (Q:Bool->Hp->Prop),Inv X d f H s->t f H Q->wpAny (model X.prog X.w) X.A (isTrue e X.env (eval e X.env)) (TP X d f Q) X.xe s
def PW(X:Cx)(e:Expr)(t:TT):Prop:=
 ∀(d:Sem Value) (pins:List (Addr×Obj)) (s:Shared) (f:St) (H:Hp) (Q:Bool->Hp->Prop),Inv X pins f H s->t f H Q->wpAny (model X.prog X.w) X.A (isTrue e X.env d) (TP X pins f Q) X.xe s
def PW.pt{X:Cx}{e:Expr}{t:TT}(h:PW X e t):PT X e t:=h _
def PA(X:Cx)(e:List Expr)(t:TA):Prop:=
 ∀(pos:Pos) (pins:List (Addr×Obj)) (s:Shared) (d:St) (H:Hp) (Q:List V->Hp->Prop),Inv X pins d H s->t d H Q->wpAny (model X.prog X.w) X.A (spliced (backTo pos (starEach e X.env))) (AP X pins d Q) X.xe s
def PS(X:Cx)(f:Stmt)(t:TS):Prop:=
 ∀(d:List (Addr×Obj)) (s:Shared) (e:St) (H:Hp) (D:Ends),Inv X d e H s->t D e H->wpAny (model X.prog X.w) X.A (exec f X.env) (SP X d D) X.xe s
def PSs(X:Cx)(f:List Stmt)(t:TS):Prop:=
 ∀(d:List (Addr×Obj)) (s:Shared) (e:St) (H:Hp) (D:Ends),Inv X d e H s->t D e H->wpAny (model X.prog X.w) X.A (execs f X.env) (SP X d D) X.xe s
def thn{d:Type}{t:Sem d}{Q e:d->Shared->Prop}{M:Model}{A:Around}{E:Value->Shared->Prop}{s:Shared}(h:wpAny M A t Q E s)(f:∀a s,Q a s->e a s):wpAny M A t e E s:=Uq h f λ_ _ x=>x
end L2
namespace L2
open PySem PySem.Spec PyProof.Rows
section
variable{X:Cx}
def tVar(i:Nat):TE:=λd H Q=>∃v,d[i]? = some (some v)/\Q v H
def tC(v:V):TE:=λ_ H Q=>Q v H
def zax{i:Nat}{x:Str}{pos:Pos}(t:X.N[i]? = some x)(w:Vis X.env.scope x)(o:(x == ("__debug__" : Str))=false:=by decide)(p:(x == ("__classdict__" : Str))=false:=by decide):PE X (.Name x pos) (tVar i):=by
 intro n s z H Q I h;obtain⟨v,e,h⟩:=h
 obtain⟨m,A,B⟩:=I.loc
 obtain⟨u,r,l⟩:=B i x v t e w
 have f:EP X n z Q u s:=⟨v,H,I,r,h⟩;rcases l with⟨g,C⟩|⟨g,c,q,d⟩
 ·exact wpAny_Name (wpAny_loadName_local I.ok.kind g A C f) o
 ·rcases g with g|g
  ·exact wpAny_Name (wpAny_loadName_cell I.ok.kind g q d f) o
  ·exact wpAny_Name (wpAny_loadName_free I.ok.kind g q d f p) o
def pe_int{i j pos}:PE X (.Constant (.int i) j pos) (tC (.int i)):=λ_ _ _ H _ I h=>wpAny_Constant_int ⟨.int i,H,I.tok _,⟨_,rfl⟩,h⟩
def pe_bl{b j pos}:PE X (.Constant (.bool b) j pos) (tC (.bl b)):=λ_ _ _ H _ I h=>Constant_bool ⟨.bl b,H,I,rfl,h⟩
def yhj{j pos}:PE X (.Constant .none j pos) (tC .non):=λ_ _ _ H _ I h=>Constant_none ⟨.non,H,I,rfl,h⟩
def Gl(X:Cx)(x:Str):Prop:=X.env.kindOf x=some .globalImplicit
def zyt{E:Value->Shared->Prop}{d:List (Addr×Obj)}{s:Shared}{e:St}{H:Hp}{x:Str}{u:Value}{pos:Pos}{Q:Value->Shared->Prop}(I:Inv X d e H s)(f:Gl X x)(g:X.mg x=some u)(h:Q u s)
 (l:(x == ("__debug__" : Str))=false:=by decide):wpAny (model X.prog X.w) X.A (eval (.Name x pos) X.env) Q E s:=
 Vl I.ok.kind f (Calls.loadGlobal_global (by rw[I.ok.glob];exact I.mod.glob.keeps I.bk) g h) l
def zgk{E:Value->Shared->Prop}{d:List (Addr×Obj)}{s:Shared}{e:St}{H:Hp}{x:Str}{u:Value}{pos:Pos}{Q:Value->Shared->Prop}(I:Inv X d e H s)(f:Gl X x)(g:X.mg x=none)(l:bootBuiltins x=some u)(h:Q u s)
 (m:x ≠ "__name__" := by decide)(n:(x == ("__debug__" : Str))=false:=by decide):wpAny (model X.prog X.w) X.A (eval (.Name x pos) X.env) Q E s:=by
 obtain⟨q,o,p⟩:=I.mod.blt
 exact Vl I.ok.kind f (Calls.loadGlobal_builtin (by rw[I.ok.glob];exact I.mod.glob.keeps I.bk) g (by rw[I.ok.blt];exact o.keeps I.bk) ((p x m).trans l) h) n
variable{a b:Expr}{ta tb:TE}{pos:Pos}
def tB(t:TE):TT:=λd H Q=>t d H λx e=>∃c,x=.bl c/\Q c e
def pt_val{e:Expr}{t:TE}(h:PE X e t)(l:∀f,isTrue e X.env f=(do let v <-f;standAt e.pos;holding [v] (truthy v)):=by intro _;rfl):PT X e (tB t):=by
 intro g s m H Q I n;refine isTrue_plain (thn (h g s m H _ I n) λv w ⟨x,o,p,r,u⟩=>?_) (l _);obtain⟨d,rfl,q⟩:=u
 cases r;exact Ki ⟨o,p,q⟩
variable{tA tB':TT}{rest:List Expr}
def tAnd(t u:TT):TT:=λd H Q=>t d H λc e=>if c=true then u d e Q else Q false e
def tOr(t u:TT):TT:=λd H Q=>t d H λc e=>if c=true then Q true e else u d e Q
def tNot(t:TT):TT:=λd H Q=>t d H λc e=>Q (!c) e
def ykp(f:PT X a tA):PW X (.BoolOp .And [a] pos) tA:=by
 intro l d s g H Q I h;refine isTrue_and (thn (f d s g H Q I h) λc m e=>?_);cases c with
 |true=>exact isTrue_and_nil e
 |false=>exact e
def pw_or1(f:PT X a tA):PW X (.BoolOp .Or [a] pos) tA:=by
 intro l d s g H Q I h;refine isTrue_or (thn (f d s g H Q I h) λc m e=>?_);cases c with
 |false=>exact isTrue_or_nil e
 |true=>exact e
def yhe(m:PT X a tA)(n:PW X (.BoolOp .And (b::rest) pos) tB'):PW X (.BoolOp .And (a::b::rest) pos) (tAnd tA tB'):=by
 intro o d s e H Q I h;refine isTrue_and (thn (m d s e H _ I h) λc p ⟨f,g,l⟩=>?_);cases c with
 |true=>exact n o d p e f Q g l
 |false=>exact⟨f,g,l⟩
def pw_or(m:PT X a tA)(n:PW X (.BoolOp .Or (b::rest) pos) tB'):PW X (.BoolOp .Or (a::b::rest) pos) (tOr tA tB'):=by
 intro o d s e H Q I h;refine isTrue_or (thn (m d s e H _ I h) λc p ⟨f,g,l⟩=>?_);cases c with
 |true=>exact⟨f,g,l⟩
 |false=>exact n o d p e f Q g l
def pt_not(e:PT X a tA):PT X (.UnaryOp .Not a pos) (tNot tA):=by
 intro d s f H Q I h;exact isTrue_not (e d s f H (λc g=>Q (!c) g) I h)
def tAndV(ta tb:TE):TE:=λd H Q=>ta d H λx e=>∃c,x=.bl c/\if c=true then tb d e Q else Q (.bl false) e
def tOrV(ta tb:TE):TE:=λd H Q=>ta d H λx e=>∃c,x=.bl c/\if c=true then Q (.bl true) e else tb d e Q
def tNotV(ta:TE):TE:=λd H Q=>ta d H λx e=>∃c,x=.bl c/\Q (.bl (!c)) e
def pe_one{e}{t:TE}(h:PE X a t):PE X (.BoolOp e [a] pos) t:=λd s f H Q I g=>BoolOp_one (h d s f H Q I g)
def yhk(m:PE X a ta)(n:PE X (.BoolOp .And (b::rest) pos) tb):PE X (.BoolOp .And (a::b::rest) pos) (tAndV ta tb):=by
 intro d s f H Q I h;refine BoolOp_and (thn (m d s f H _ I h) λv o ⟨x,g,l,p,e⟩=>?_);obtain⟨c,rfl,e⟩:=e
 cases p;refine Ki ?_;cases c with
 |true=>exact n d o f g Q l e
 |false=>exact⟨.bl false,g,l,rfl,e⟩
def pe_or(m:PE X a ta)(n:PE X (.BoolOp .Or (b::rest) pos) tb):PE X (.BoolOp .Or (a::b::rest) pos) (tOrV ta tb):=by
 intro d s f H Q I h;refine BoolOp_or (thn (m d s f H _ I h) λv o ⟨x,g,l,p,e⟩=>?_);obtain⟨c,rfl,e⟩:=e
 cases p;refine Ki ?_;cases c with
 |false=>exact n d o f g Q l e
 |true=>exact⟨.bl true,g,l,rfl,e⟩
def pe_not(f:PE X a ta):PE X (.UnaryOp .Not a pos) (tNotV ta):=by
 intro d s g H Q I h;refine UnaryOp_ (thn (f d s g H _ I h) λv o ⟨x,l,m,n,e⟩=>?_);obtain⟨c,rfl,e⟩:=e
 cases n;exact not_of (Ki ⟨.bl (!c),l,m,rfl,e⟩)
def tIf(t:TT)(ta tb:TE):TE:=λd H Q=>t d H λc e=>if c=true then ta d e Q else tb d e Q
def zrz{c:Expr}(o:PT X c tA)(p:PE X a ta)(q:PE X b tb):PE X (.IfExp c a b pos) (tIf tA ta tb):=by
 intro e s f H Q I h;refine wpAny_IfExp (thn (o e s f H _ I h) λd g ⟨l,m,n⟩=>?_);cases d with
 |true=>exact p e g f l Q m n
 |false=>exact q e g f l Q m n
end
end L2
namespace L2
open PySem PySem.Spec PyProof.Rows
def SqL(K:vE)(H:Hp)(a:Addr)(e:List V):Prop:=
 Rd H a (.lst e) \/
  ∃(o:Obj) (d:Array Value) (n:Nat),K.lookup a=some o/\o.cls=.type "list" /\ o.dict=none/\o.data=.seq d n/\d.size<=sizeLine/\Vals e d.toList
def SqT(K:vE)(H:Hp)(a:Addr)(e:List V):Prop:=
 Rd H a (.tup e) \/
  ∃(o:Obj) (d:Array Value) (n:Nat),K.lookup a=some o/\o.cls=.type "tuple" /\ o.data=.seq d n/\d.size<=sizeLine/\Vals e d.toList
def absV:Value->Option V
 |.none=>some .non
 |.bool b=>some (.bl b)
 |.int i _=>some (.int i)
 |.str x _=>some (.str x)
 |.bytes b _=>some (.byt b)
 |.float b _=>some (.flt b)
 |.ref a=>some (.ref a)
 |.type n=>some (.ty n)
 |_=>none
def RelV.abs{x:V}{u:Value}(r:RelV x u):absV u=some x:=by
 cases x with
 |non=>cases r;rfl
 |bl _=>cases r;rfl
 |int _=>obtain⟨t,rfl⟩:=r;rfl
 |str _=>obtain⟨t,rfl⟩:=r;rfl
 |byt _=>obtain⟨t,rfl⟩:=r;rfl
 |flt _=>obtain⟨t,rfl⟩:=r;rfl
 |ref _=>cases r;rfl
 |ty _=>cases r;rfl
def RelV.inj{x y:V}{u:Value}(r:RelV x u)(q:RelV y u):x=y:=Zw (r.abs.symm.trans q.abs)
theorem Vals.inj:∀{e d:List V}{f:List Value},Vals e f->Vals d f->e=d:=λ{e d f} h=>by
 induction h generalizing d with
 |nil=>intro k;cases k;rfl
 |cons r t g=>
  intro k;cases k with
  |cons l m=>rw[r.inj l,g m]
section
variable{X:Cx}{pins:List (Addr×Obj)}{σ:St}{H:Hp}{s:Shared}{a:Addr}{xs ys:List V}
def SqL.of{K:vE}(h:H a=some (.lst xs)):SqL K H a xs:=.inl (.inl h)
def SqT.of{K:vE}(h:H a=some (.tup xs)):SqT K H a xs:=.inl (.inl h)
def Inv.list(I:Inv X pins σ H s)(h:SqL X.K H a xs):∃d:List Value,Vals xs d/\PlainL s.heap a d.toArray/\xs.length<=sizeLine:=by
 rcases h with h|⟨o,d,n,f,g,l,m,p,r⟩
 ·obtain⟨z,d,n,r,e⟩:=h.ok I.hok
  exact⟨d,r,⟨_,n,e,rfl,rfl,rfl⟩,z⟩
 ·refine⟨d.toList,r,⟨o,n,I.kIn a o f,g,l,by simpa using m⟩,?_⟩
  have e:=r.length;simp only[Qp] at e;omega
def Inv.tuple(I:Inv X pins σ H s)(h:SqT X.K H a xs):∃d:List Value,Vals xs d/\IsTup s.heap a d.toArray/\xs.length<=sizeLine:=by
 rcases h with h|⟨o,d,n,f,g,l,m,r⟩
 ·obtain⟨z,d,r,p⟩:=h.ok I.hok
  exact⟨d,r,p,z⟩
 ·refine⟨d.toList,r,⟨o,I.kIn a o f,g,n,by simpa using l⟩,?_⟩
  have e:=r.length;simp only[Qp] at e;omega
def Inv.list_inj(I:Inv X pins σ H s)(h:SqL X.K H a xs)(p:SqL X.K H a ys):xs=ys:=by
 obtain⟨g,r,⟨o,n,e,_,_,d⟩,_⟩:=I.list h
 obtain⟨f,q,⟨u,v,l,_,_,m⟩,_⟩:=I.list p
 rw[e] at l;cases l;rw[d] at m;injection m with t _
 have:g=f:=by simpa using congrArg Array.toList t
 subst this;exact r.inj q
def Inv.tuple_inj(I:Inv X pins σ H s)(h:SqT X.K H a xs)(p:SqT X.K H a ys):xs=ys:=by
 obtain⟨g,r,⟨o,e,_,n,d⟩,_⟩:=I.tuple h
 obtain⟨f,q,⟨u,l,_,v,m⟩,_⟩:=I.tuple p
 rw[e] at l;cases l;rw[d] at m;injection m with t _
 have:g=f:=by simpa using congrArg Array.toList t
 subst this;exact r.inj q
end
abbrev Cx.wish(X:Cx)(E:Value->Shared->Prop):Cx:={X with xe:=E}
abbrev Cx.nox(X:Cx):Cx:=X.wish λ_ _=>False
theorem Cx.Ok.wish{X:Cx}(ok:X.Ok)(E:Value->Shared->Prop):(X.wish E).Ok:=
 ⟨ok.mod,ok.kind,ok.glob,ok.blt,ok.above,ok.inj,ok.has,ok.cab,ok.hd,ok.frames,ok.stk,ok.exf,ok.bs,ok.bsz,ok.noex,ok.exfs,ok.funs,ok.frf⟩
def Cx.Ok.unwish{X:Cx}{E:Value->Shared->Prop}(ok:(X.wish E).Ok):X.Ok:=
 ⟨ok.mod,ok.kind,ok.glob,ok.blt,ok.above,ok.inj,ok.has,ok.cab,ok.hd,ok.frames,ok.stk,ok.exf,ok.bs,ok.bsz,ok.noex,ok.exfs,ok.funs,ok.frf⟩
section
variable{X:Cx}{pins:List (Addr×Obj)}{σ:St}{H:Hp}{s:Shared}{E:Value->Shared->Prop}
theorem Inv.wish(I:Inv X pins σ H s)(E:Value->Shared->Prop):Inv (X.wish E) pins σ H s:=⟨I.ok.wish E,I.os,I.bare,I.base,I.loc,I.cell,I.free,I.freeC,I.pin,I.hok,I.len⟩
theorem Inv.unwish(I:Inv (X.wish E) pins σ H s):Inv X pins σ H s:=⟨I.ok.unwish,I.os,I.bare,I.base,I.loc,I.cell,I.free,I.freeC,I.pin,I.hok,I.len⟩
theorem SP.unwish{D:Ends}{f:Flow}{g:Shared}(h:SP (X.wish E) pins D f g):SP X pins D f g:=by
 cases f with
 |next=>obtain⟨d,e,I,q⟩:=h;exact⟨d,e,I.unwish,q⟩
 |brk=>obtain⟨d,e,I,q⟩:=h;exact⟨d,e,I.unwish,q⟩
 |cont=>obtain⟨d,e,I,q⟩:=h;exact⟨d,e,I.unwish,q⟩
 |ret u=>obtain⟨v,d,e,I,r,q⟩:=h;exact⟨v,d,e,I.unwish,r,q⟩
theorem PSs.nox{d:List Stmt}{t:TS}(h:PSs X.nox d t):PSs X d t:=λpins s σ H D I e=>
 Uq (h pins s σ H D (I.wish _) e) (λ_ _ q=>q.unwish) λ_ _ z=>False.elim z
end
section
variable{X:Cx}{st:Stmt}{rest:List Stmt}{t u:TS}{e:Expr}{te:TE}{pos:Pos}
def tNext:TS:=λD d H=>D.nx d H
def tSeq(t u:TS):TS:=λD d H=>t {D with nx:=u D} d H
def zxk:PSs X [] tNext:=λ_ _ d H _ I h=>Um ⟨d,H,I,h⟩
def zak(g:PS X st t)(l:PSs X rest u):PSs X (st::rest) (tSeq t u):=by
 intro d s m H D I h;refine wpAny_execs_cons (thn (g d s m H {D with nx:=u D} I h) λf n q=>?_);cases f with
 |next=>
  obtain⟨e,o,p,q⟩:=q
  exact l d n e o D p q
 |ret v=>exact q
 |brk=>exact q
 |cont=>exact q
def zdd(e:PS X st t):PSs X [st] t:=by
 intro d s g H D I h;refine wpAny_execs_cons (thn (e d s g H D I h) λf l q=>?_);cases f with
 |next=>exact Um q
 |ret v=>exact q
 |brk=>exact q
 |cont=>exact q
def Inv.quiet{pins:List (Addr×Obj)}{σ:St}{H:Hp}{s:Shared}(I:Inv X pins σ H s):interactive X.env=false:=by simp[interactive,I.ok.kind]
def yci(te:TE):TS:=λD d H=>te d H λ_ e=>D.nx d e
def zij(g:PE X e te)(l:swapsWith e none pos.line X.env=pure false:=by rfl):PS X (.Expr e pos) (yci te):=by
 intro d s f H D I h;exact wpAny_Expr_any (thn (g d s f H _ I h) λv p ⟨x,m,n,q,o⟩=>⟨f,m,n,o⟩) I.quiet l
def tRet(te:TE):TS:=λD d H=>te d H D.rt
def zry(g:PE X e te):PS X (.Return (some e) pos) (tRet te):=by
 intro d s f H D I h;exact wpAny_Return_some (thn (g d s f H _ I h) λv p ⟨x,l,m,n,o⟩=>⟨x,f,l,m,n,o⟩)
def tIfS(c:TT)(t u:TS):TS:=λD d H=>c d H λb e=>if b=true then t D d e else u D d e
def ykz{c:Expr}{a b:List Stmt}{g:TT}(p:PT X c g)(q:PSs X a t)(r:PSs X b u):PS X (.If c a b pos) (tIfS g t u):=by
 intro e s f H D I h;refine wpAny_If (thn (p e s f H _ I h) λd l ⟨m,n,o⟩=>?_);cases d with
 |true=>exact q e l f m D n o
 |false=>exact r e l f m D n o
def tNever:TS:=λ_ _ _=>False
def zii{d:List Stmt}:PSs X d tNever:=λ_ _ _ _ _ _ h=>h.elim
end
abbrev TG:=V->St->Hp->(St->Hp->Prop)->Prop
abbrev TGs:=List V->St->Hp->(St->Hp->Prop)->Prop
def PG(X:Cx)(d:Expr)(t:TG):Prop:=
 ∀(e:List (Addr×Obj)) (s:Shared) (g:St) (H:Hp) (v:V) (u:Value) (Q:St->Hp->Prop),Inv X e g H s->RelV v u->t v g H Q ->
  wpAny (model X.prog X.w) X.A (assign d X.env u) (λ_ l=>∃f h,Inv X e f h l/\Q f h) X.xe s
def PGs(X:Cx)(m:List Expr)(t:TGs):Prop:=
 ∀(d:List (Addr×Obj)) (s:Shared) (f:St) (H:Hp) (g:List V) (h:List Value) (Q:St->Hp->Prop),Inv X d f H s->Vals g h->t g f H Q ->
  wpAny (model X.prog X.w) X.A (assignInOrder ((assignEach m X.env).map (·.2)) h) (λ_ n=>∃e l,Inv X d e l n/\Q e l) X.xe s
abbrev TSet:=V->V->V->Hp->(Hp->Prop)->Prop
def PSet(X:Cx)(t:TSet):Prop:=
 ∀(d:List (Addr×Obj)) (s:Shared) (e:St) (H:Hp) (o i v:V) (f g u:Value) (Q:Hp->Prop),Inv X d e H s->RelV o f->RelV i g->RelV v u->t o i v H Q ->
  wpAny (model X.prog X.w) X.A (setItem f g u) (λ_ l=>∃h,Inv X d e h l/\Q h) X.xe s
section
variable{X:Cx}{pos:Pos}
def zzj(i:Nat):TG:=λv d H Q=>Q (d.set i (some v)) H
def zil{i:Nat}{x:Str}(e:X.N.Nodup)(f:X.N[i]? = some x)(g:Loc X.env.scope x)(l:X.fn x=true\/X.env.scope.names.lookup x=some .local:=by first|exact .inl rfl|exact .inr rfl|assumption):PG X (.Name x pos) (zzj i):=by
 intro d s n H v u Q I r h;exact wpAny_assign_Name (zhc I e f g r (λo m=>⟨_,H,m,h⟩) l)
def gNil:TGs:=λd e H Q=>d=[]/\Q e H
def gCons(t:TG)(u:TGs):TGs:=λe f H Q=>∃v r,e=v::r/\t v f H λd g=>u r d g Q
def zps:PGs X [] gNil:=by
 intro d s f H g l Q I r h;obtain⟨e,h⟩:=h
 subst e;cases r;exact assignInOrder_nil ⟨f,H,I,h⟩
def zhe{e:Expr}{f:List Expr}{t:TG}{u:TGs}(l:PG X e t)(m:PGs X f u)
 (n:(assignEach (e::f) X.env).map (·.2)=assign e X.env::(assignEach f X.env).map (·.2):=by rfl):PGs X (e::f) (gCons t u):=by
 intro d s o H C D Q I r h;obtain⟨v,E,p,h⟩:=h
 subst p;cases r with
 |cons r q=>
  rw[n];refine Vg (thn (l d s o H _ _ _ I r h) λ_ w ⟨g,z,A,B⟩=>?_);exact m d w g z _ _ Q A q B
def gTup(K:vE)(n:Nat)(t:TGs):TG:=λv e H Q=>∃a d,v=.ref a/\SqT K H a d/\d.length=n/\t d e H Q
def zxt{f:List Expr}{k:Nat}{t:TGs}{n:Nat}(q:X.calm=true)(h:PGs X f t)
 (w:(assignEach f X.env).length=n:=by rfl)(g:(assignEach f X.env).findIdx? (·.1)=none:=by rfl):PG X (.Tuple f k pos) (gTup X.K n t):=by
 intro d s m H v u Q I r l;obtain⟨a,z,A,B,C,l⟩:=l
 subst A;cases r;obtain⟨D,p,E,L⟩:=I.tuple B
 refine assign_Tuple_tuple (I.ok.hd q) E (by simp[w,<-C,p.length]) g λF G=>?_;have J:Inv X d m H {s with heap:=F}:=I.kept (t':=s.toks) λb o e=>G b o (Yi (Zo e)) e
 exact h d _ m H z _ Q J (by simpa using p) l
def gSub(e f:TE)(t:TSet):TG:=λv d H Q=>e d H λo g=>f d g λi h=>t o i v h λH3=>Q d H3
def pg_sub{o i:Expr}{l m:TE}{t:TSet}(n:PE X o l)(p:PE X i m)(q:PSet X t)
 (w:∀v,assign (.Subscript o i pos) X.env v=(do
   let e <-holding [v] (eval o X.env)
   let f <-holding [v,e] (eval i X.env)
   standAt pos
   holding [v,e,f] (setItem e f v)
   release [v,e,f] []):=by intro _;rfl):PG X (.Subscript o i pos) (gSub l m t):=by
 intro d s g H v u Q I r h;rw[w];refine Zd (W7 (thn (n d s g H _ I h) λe z ⟨x,A,B,C,D⟩=>?_));refine Zd (W7 (thn (p d z g A _ B D) λf E ⟨y,F,G,J,K⟩=>?_));refine Zd (Vd (Zd (W7 (thn (q d E g F x y v e f u _ G C J r K) λ_ N ⟨H3,L,M⟩=>?_))));exact wpAny_release ⟨g,H3,L,M⟩
def tAsg(e:TE)(g:TG):TS:=λD d H=>e d H λx f=>g x d f D.nx
def yhg{f e:Expr}{l:TE}{g:TG}(n:PE X e l)(o:PG X f g)(p:swapsWithSole [f] e pos.line X.env=pure false:=by rfl)(r:swappedStores [f] e X.env=pure none:=by rfl)
 (t:(assignEach [f] X.env).map (·.2)=[assign f X.env]:=by rfl):PS X (.Assign [f] e pos) (tAsg l g):=by
 intro d s m H D I h;refine wpAny_Assign_stores (thn (n d s m H _ I h) λv u ⟨x,w,z,A,B⟩=>?_) p r;rw[t];exact thn (o d u m w x v _ z A B) λ_ C q=>q
def zkg{i:Nat}{x:Str}{e:Expr}{g:TE}{d:Pos}(l:X.N.Nodup)(m:X.N[i]? = some x)(n:Loc X.env.scope x)(o:PE X e g)(p:swapsWith e (some (.Name x d)) pos.line X.env=pure false:=by rfl)(q:X.fn x=true\/X.env.scope.names.lookup x=some .local:=by first|exact .inl rfl|exact .inr rfl|assumption):
  PS X (.Assign [.Name x d] e pos) (tAsg g (zzj i)):=by
 intro f s r H D I h;refine wpAny_Assign_Name (thn (o f s r H _ I h) λv B ⟨y,t,u,w,z⟩=>?_) p;exact zhc u l m n w (λC A=>⟨_,t,A,z⟩) q
def tPar(i j:Nat)(e:TA):TS:=λD d H=>e d H λf g=>∃v w,f=[v,w]/\D.nx ((d.set i (some v)).set j (some w)) g
def ps_par{i j:Nat}{x y:Str}{a b:Expr}{G:TA}{n r t:Pos}{u z f}(Q:X.calm=true)(J:X.N.Nodup)(R:X.N[i]? = some x)(S:X.N[j]? = some y)(B:i≠j)
 (K:X.env.scope.names.lookup x=some .local)(L:X.env.scope.names.lookup y=some .local)(T:PA X [a,b] G)
 (U:swappedStores [.Tuple [.Name x n,.Name y r] u t] (.Tuple [a,b] z f) X.env=pure (some [x,y]))
 (V:swapsWithSole [.Tuple [.Name x n,.Name y r] u t] (.Tuple [a,b] z f) pos.line X.env=pure false:=by rfl):
  PS X (.Assign [.Tuple [.Name x n,.Name y r] u t] (.Tuple [a,b] z f) pos) (tPar i j G):=by
 intro d s M H D I h;rw[exec_Assign_arm];refine Zd (Vd ?_);rw[V];refine Zd (Zs ?_);rw[if_neg vA];refine Zd (Tuple_ (thn (T _ d s M H _ I h) λW g ⟨vs,O,Y,Z,C⟩=>?_));obtain⟨v,w,e1,C⟩:=C
 subst e1;obtain⟨l,m,rfl,rv,E⟩:∃l m,W=[l,m]/\RelV v l/\RelV w m:=by
  cases Z with
  |cons p q=>
   cases q with
   |cons p' q'=>
    cases q';exact⟨_,_,rfl,p,p'⟩
 refine Jy ?_ (by show 2<=sizeLine;decide);have I2:Inv X d M O {g with heap:=g.heap.push {cls:=.type "tuple",data:=.seq [l,m].toArray} }:=Y.kept (t':=g.toks) λb o e=>Ze _ e
 rw[U];refine Zd (Zs ?_);show wpAny (model X.prog X.w) X.A (do rule "assign.swapped-stores"; let items <-unpackItems (.ref g.heap.objs.size) 2 none;assignInOrder [λv=>bindName X.env y v,λv=>bindName X.env x v] items.reverse;pure Flow.next) _ _ _;refine Zd (Jx (Zd (unpackItems_tuple (items:=#[l,m]) (I.ok.hd Q) (IsTup.new g.heap _) λh' F=>?_)));have I3:=I2.kept (h':=h') (t':=g.toks) λb o e=>F b o (Yi (Zo e)) e
 show wpAny _ _ (assignInOrder [λv=>bindName X.env y v,λv=>bindName X.env x v] [m,l] >>= λ_=>pure Flow.next) _ _ _;refine Zd (Vg (wpAny_bindName (zhc I3 J S (.inl L) E (λs2 I4=>?_) (.inr L))));refine Vg (wpAny_bindName (zhc I4 J R (.inl K) rv (λs3 P=>assignInOrder_nil (Zs ?_)) (.inr K)));rw[List.set_comm _ _ (Wz B)] at P;exact⟨_,O,P,C⟩
end
section
variable{X:Cx}{pos:Pos}
def tWhile(c:TT)(l:TS):TS:=λD d H=>∃W:Nat->St->Hp->Prop,(∃m,W m d H)/\∀m d H,W m d H ->
 c d H λb f=>if b=true then ∃N:St->Hp->Prop,(∀e g,N e g->∃h,h<m/\W h e g)/\l {D with nx:=N,ct:=N,bk:=D.nx} d f else D.nx d f
def zrx{c:Expr}{l:List Stmt}{B:TT}{C:TS}(E:PassesOwn (model X.prog X.w) X.A X.env X.xe)(M:PT X c B)(O:PSs X l C):PS X (.While c l [] pos) (tWhile B C):=by
 intro d s P H D I h;obtain⟨W,⟨Q,R⟩,turn⟩:=h
 refine wpAny_While (codeAny_whileLoop (λn S=>∃m F,Inv X d m F S/\W n m F) ?_ Q ⟨P,H,I,R⟩);rintro n T ⟨g,G,U,V⟩
 refine Ke E (thn (M d T g G _ U (turn n g G V)) λb Y ⟨J,K,o⟩=>?_);cases b with
 |true=>
  obtain⟨N,L,o⟩:=o
  rw[if_pos rfl];refine Ke E (thn (O d Y g J _ K o) λf Z p=>?_);cases f with
  |next=>
   obtain⟨e,H3,q,r⟩:=p
   obtain⟨t,u,z⟩:=L e H3 r
   exact⟨t,u,e,H3,q,z⟩
  |cont=>
   obtain⟨e,H3,q,r⟩:=p
   obtain⟨t,u,z⟩:=L e H3 r
   exact⟨t,u,e,H3,q,z⟩
  |brk=>exact p
  |ret v=>exact p
 |false=>
  rw[if_neg Zz];exact Um ⟨g,J,K,o⟩
end
structure It where
 go:Nat->Hp->Prop
 yld:Nat->Hp->V->Hp->Prop
 stop:Nat->Hp->Prop
def FpOk(X:Cx)(d:List (Addr×Obj))(H:Hp)(b:Addr):Prop:=
 H b=none/\b≠X.env.locals/\b∉X.fs/\(b∈X.ex\/X.s₀.heap.objs.size<=b)/\(∀x c,X.env.cells.lookup x=some c->c≠b)/\∀p∈X.pn++d,p.1≠b
def Inv.fpOk{X:Cx}{pins:List (Addr×Obj)}{σ:St}{H H':Hp}{s:Shared}{b:Addr}(I:Inv X pins σ H s)(d:s.heap.objs.size<=b)(f:H' b=none):FpOk X pins H' b:=by
 refine⟨f,Z8 (Zf I.lt d),I.nofs d,.inr (Wc I.sz d),λx c e z=>?_,λp g z=>?_⟩
 ·obtain⟨v,q⟩:=I.cell x c e
  exact absurd (Zf q.lt (by rw[z];exact d)) (Wq _)
 ·exact absurd (Zf (Zo (I.pin p g).1) (by rw[z];exact d)) (Wq _)
structure Turn(P:Program)(w:World)(K:vE)(tg:Expr)(J:It)(fp:List Addr)(it:Addr)(tn:Nat->Heap->Prop):Prop where
 mem:it∈fp
 obj:∀i h,tn i h->∀b∈fp,∃o,h.get? b=some o/\∀v,o.data ≠ .cell v
 keep:∀i h h',tn i h->(∀b∈fp,∀o,h.get? b=some o->h'.get? b=some o)->tn i h'
 item:∀(X:Cx),X.prog=P->X.w=w->X.K=K->X.calm=true->∀(i:Nat) (pins:List (Addr×Obj)) (s:Shared) (σ:St) (H:Hp) (E:Value->Shared->Prop),Inv X pins σ H s->(∀b∈fp,FpOk X pins H b)->tn i s.heap->J.go i H ->
  wpAny (model P w) X.A (pyNext (.ref it)) (λr s1=>∃u,r=some u /\
   wpAny (model P w) X.A (letOwnedTupleGo tg (.ref it) u) (λ_ s2=>∃x H',Inv X pins σ H' s2/\RelV x u/\J.yld i H x H'/\tn (i+1) s2.heap/\∀b∈fp,H' b=none) E s1) E s
 done:∀(X:Cx),X.prog=P->X.w=w->X.K=K->X.calm=true->∀(i:Nat) (pins:List (Addr×Obj)) (s:Shared) (σ:St) (H:Hp) (E:Value->Shared->Prop),Inv X pins σ H s->(∀b∈fp,FpOk X pins H b)->tn i s.heap->J.stop i H ->
  wpAny (model P w) X.A (pyNext (.ref it)) (λr s1=>r=none/\Inv X pins σ H s1) E s
 self:∀(A:Around) (i:Nat) (s:Shared) (Q:Value->Shared->Prop) (E:Value->Shared->Prop),tn i s.heap->Q (.ref it) s->wpAny (model P w) A (pyIter (.ref it)) Q E s
abbrev TI:=St->Hp->(It->Hp->Prop)->Prop
def PIE(X:Cx)(d:List (Addr×Obj))(n:St)(o:Expr)(R:It->Hp->Prop)(e:Value)(g:Shared):Prop:=
 ∃(h:Addr) (l:List Addr) (m:Nat->Heap->Prop) (J:It) (f:Hp),e=.ref h/\Inv X d n f g/\Turn X.prog X.w X.K o J l h m/\m 0 g.heap/\(∀b∈l,FpOk X d f b)/\R J f
def PI(X:Cx)(g e:Expr)(h:TI):Prop:=
 ∀(d:List (Addr×Obj)) (s:Shared) (f:St) (H:Hp) (R:It->Hp->Prop),Inv X d f H s->h f H R ->
  wpAny (model X.prog X.w) X.A (eval e X.env) (λv l=>wpAny (model X.prog X.w) X.A (pyIter v) (PIE X d f g R) X.xe l) X.xe s
def yex{M:Model}{A:Around}{E:Value->Shared->Prop}{s:Shared}{e:Expr}{f:Addr}{u:Value}{o:Obj}{n:String}{g:Array Value}{Q:Unit->Shared->Prop}(l:s.heap.get? f=some o)(m:o.cls=.type n)(p:o.data=.fields g)
   (q:["enumerate","zip","dict_itemiterator","dict_reverseitemiterator","odict_iterator","itertools.zip_longest","itertools.pairwise"].contains n=false)(d:Q () s):wpAny M A (letOwnedTupleGo e (.ref f) u) Q E s:=by
  unfold letOwnedTupleGo;cases e<;>first
    |exact Zs d
    | (cases u<;>first
        |exact Zs d
        | (refine Zd (wpAny_load l ?_)
           rw[m,p];show wpAny M A (if (["enumerate","zip","dict_itemiterator","dict_reverseitemiterator","odict_iterator","itertools.zip_longest","itertools.pairwise"].contains n && g[0]? == some (rawInt _))=true then _ else _) Q E s;rw[if_neg (by intro h;rw[q,Bool.false_and] at h;cases h)];exact Zs d))
def Itl(K:vE)(a:Addr):It:=
 ⟨λi H=>∃d x,SqL K H a d/\d[i]? = some x,λi H x e=>e=H/\∀d,SqL K H a d->d[i]? = some x,λi H=>∃d,SqL K H a d/\d.length<=i⟩
def Itt(K:vE)(a:Addr):It:=
 ⟨λi H=>∃d x,SqT K H a d/\d[i]? = some x,λi H x e=>e=H/\∀d,SqT K H a d->d[i]? = some x,λi H=>∃d,SqT K H a d/\d.length<=i⟩
def Itr(d:Int)(n:Nat):It:=⟨λi _=>i<n,λi H x e=>e=H/\x=.int (d+i),λi _=>n<=i⟩
def zvw{P:Program}{w:World}{K:vE}{T:Expr}(a l:Addr):Turn P w K T (Itl K a) [l] l (λi h=>h.IsListIter l a i) where
 mem:=by simp
 obj:=λi h f b m=>by
  have e:b=l:=by simpa using m
  subst e;obtain⟨o,e,c,d⟩:=f
  exact⟨o,e,λv z=>by rw[d] at z;cases z⟩
 keep:=λi h q f k=>f.at λo e=>k l vC o e
 item:=by
  intro X A B C R i g s S H E I r f D;subst A B C;obtain⟨U,x,t,F⟩:=D
  obtain⟨G,J,p,V⟩:=I.list t
  obtain⟨u,Y,Z⟩:=J.get F
  obtain⟨L,M,f2,N,O,Q⟩:=r l vC
  refine wpAny_pyNext_list_item f p.isList (x:=u) (by simpa using Y) λq n sb=>?_;have I1:Inv X g S H {s with heap:=q}:=I.turned (t':=s.toks) (λb o m e=>(sb.2 b m).trans e) L M N O Q;obtain⟨o,e,c,d⟩:=id n
  exact⟨u,rfl,yex (s:={s with heap:=q}) e c d vA ⟨x,H,I1,Z,⟨rfl,λys hy=>by rw[I.list_inj hy t];exact F⟩,n,λb m=>(r b m).1⟩⟩
 done:=by
  intro X A B C R i g s S H E I r f D;subst A B C;obtain⟨U,t,F⟩:=D
  obtain⟨G,J,p,V⟩:=I.list t
  obtain⟨L,M,f2,N,O,Q⟩:=r l vC
  have hl:=J.length;exact wpAny_pyNext_list_end (I.ok.hd R) f p.isList (by simp;omega) λq eb=>⟨rfl,I.turned (t':=s.toks) (λb o m e=>eb b o m e) L M N O Q⟩
 self:=λ_ _ _ _ _ f h=>wpAny_pyIter_listiter f h
def ztp{P:Program}{w:World}{K:vE}{T:Expr}(a l:Addr):Turn P w K T (Itt K a) [l] l (λi h=>h.IsTupleIter l a i) where
 mem:=by simp
 obj:=λi h f b m=>by
  have e:b=l:=by simpa using m
  subst e;obtain⟨o,e,c,d⟩:=f
  exact⟨o,e,λv z=>by rw[d] at z;cases z⟩
 keep:=λi h r f k=>f.at λo e=>k l vC o e
 item:=by
  intro X B C D R i g s S H E I t f F;subst B C D;obtain⟨U,x,A,G⟩:=F
  obtain⟨n,J,p,V⟩:=I.tuple A
  obtain⟨u,Y,Z⟩:=J.get G
  obtain⟨L,M,f2,N,O,Q⟩:=t l vC
  refine wpAny_pyNext_tuple_item f (show s.heap.IsTuple a n.toArray from p) (x:=u) (by simpa using Y) λr q sb=>?_;have I1:Inv X g S H {s with heap:=r}:=I.turned (t':=s.toks) (λb o m e=>(sb.2 b m).trans e) L M N O Q;obtain⟨o,e,c,d⟩:=id q
  exact⟨u,rfl,yex (s:={s with heap:=r}) e c d vA ⟨x,H,I1,Z,⟨rfl,λys hy=>by rw[I.tuple_inj hy A];exact G⟩,q,λb m=>(t b m).1⟩⟩
 done:=by
  intro X B C D R i g s S H E I t f F;subst B C D;obtain⟨U,A,G⟩:=F
  obtain⟨n,J,p,V⟩:=I.tuple A
  obtain⟨L,M,f2,N,O,Q⟩:=t l vC
  have hl:=J.length;exact wpAny_pyNext_tuple_end (I.ok.hd R) f (show s.heap.IsTuple a n.toArray from p) (by simp;omega) λr eb=>⟨rfl,I.turned (t':=s.toks) (λb o m e=>eb b o m e) L M N O Q⟩
 self:=λ_ _ _ _ _ f h=>wpAny_pyIter_tupleiter f h
def ztq{P:Program}{w:World}{K:vE}{Q:Expr}(f:Addr)(p:Int)(n:Nat):Turn P w K Q (Itr p n) [f] f (λi h=>IsRangeIter h f (p+(i:Nat)*1) ((n:Int)-(i:Nat)) 1) where
 mem:=by simp
 obj:=λi h d b l=>by
  have e:b=f:=by simpa using l
  subst e;exact⟨_,d,λv z=>by
   have R:Data.fields _=Data.cell v:=z;cases R⟩
 keep:=λi h q d k=>k f vC _ d
 item:=by
  intro X u A B C i g s N H E I r d D;subst u A B;obtain⟨F,G,S,J,L,M⟩:=r f vC
  have W:=Walks.range (prog:=X.prog) (w:=X.w) (I.ok.hd C) f p 1 n;refine W.item i s _ _ D d λv q O T m U=>?_;obtain⟨t,rfl⟩:=T
  have V:Inv X g N H {s with heap:=q,toks:=O}:=I.turned (λb o l e=>U b o (by simpa using l) e) F G J L M;refine⟨_,rfl,yex (s:={s with heap:=q,toks:=O}) (n := "range_iterator") m rfl rfl vA ⟨.int (p+i),H,V,⟨t,?_⟩,⟨rfl,rfl⟩,m,λb l=>(r b l).1⟩⟩
  rw[Up]
 done:=by
  intro X u A B C i g s N H E I r d D;subst u A B;obtain⟨F,G,S,J,L,M⟩:=r f vC
  exact wpAny_pyNext_range_end (I.ok.hd C) d (by have:n<=i:=D;omega) λq Y=>⟨rfl,I.turned (t':=s.toks) (λb o l e=>Y b o l e) F G J L M⟩
 self:=λ_ _ _ _ _ d h=>wpAny_pyIter_rangeiter d h
end L2
namespace L2
open PySem PySem.Spec PyProof.Rows
section
variable{X:Cx}{tg:Expr}
def iList(K:vE)(e:TE):TI:=λf H R=>e f H λx d=>∃a,x=.ref a/\(∃g,SqL K d a g)/\R (Itl K a) d
def iTup(K:vE)(e:TE):TI:=λf H R=>e f H λx d=>∃a,x=.ref a/\(∃g,SqT K d a g)/\R (Itt K a) d
def zpr{l:Expr}{m:TE}(n:PE X l m):PI X tg l (iList X.K m):=by
 intro d s r H R I h;refine thn (n d s r H _ I h) λv f ⟨x,t,g,u,w⟩=>?_;obtain⟨a,e,⟨C,z⟩,q⟩:=w
 subst e;cases u;obtain⟨A,D,p,E⟩:=g.list z
 refine Vm p.isList ?_;refine⟨f.heap.objs.size,[f.heap.objs.size],_,_,t,rfl,g.kept (t':=f.toks) λb o e=>Ze _ e,zvw a _,⟨_,Z0 _ rfl,rfl,rfl⟩,λb B=>?_,q⟩
 have e:b=f.heap.objs.size:=by simpa using B
 subst e;exact g.fpOk (Zl _) (g.hok.fresh (Zl _))
def zxr{l:Expr}{n:TE}(r:PE X l n):PI X tg l (iTup X.K n):=by
 intro d s t H R I h;refine thn (r d s t H _ I h) λv f ⟨x,u,g,w,z⟩=>?_;obtain⟨a,e,⟨C,A⟩,q⟩:=z
 subst e;cases w;obtain⟨m,D,p,E⟩:=g.tuple A
 refine wpAny_pyIter_tuple (show f.heap.IsTuple a m.toArray from p) ?_;refine⟨f.heap.objs.size,[f.heap.objs.size],_,_,u,rfl,g.kept (t':=f.toks) λb o e=>Ze _ e,ztp a _,⟨_,Z0 _ rfl,rfl,rfl⟩,λb B=>?_,q⟩
 have e:b=f.heap.objs.size:=by simpa using B
 subst e;exact g.fpOk (Zl _) (g.hok.fresh (Zl _))
def ydg{g:List (Addr×Obj)}{h:St}{H:Hp}{s:Shared}{R:It->Hp->Prop}{E:Value->Shared->Prop}{d f:Int}{t u v:Tok}{l:Nat}(I:Inv X g h H s)(n : -(2^62)<=d)(p:d<2^62)(r : -(2^62)<=f)(z:f<2^62)
 (q:R (Itr d (f-d).toNat) H):wpAny (model X.prog X.w) X.A (pyIter (.ref s.heap.objs.size)) (PIE X g h tg R) E {s with heap:=s.heap.push {cls:=.type "range",data:=.fields #[.int d t,.int f u,.int 1 v]},toks:=l}:=by
 refine wpAny_pyIter_range (IsRange.new ..) (small_one n p r z) ?_;have m:Inv X g h H {s with heap:=s.heap.push {cls:=.type "range",data:=.fields #[.int d t,.int f u,.int 1 v]},toks:=l}:=I.kept λb o e=>Ze _ e
 refine⟨(s.heap.push {cls:=.type "range",data:=.fields #[.int d t,.int f u,.int 1 v]}).objs.size,[(s.heap.push {cls:=.type "range",data:=.fields #[.int d t,.int f u,.int 1 v]}).objs.size],_,_,H,rfl,
  m.kept (t':=l) λb o e=>Ze _ e,ztq _ d (f-d).toNat,?_,λb B=>?_,q⟩
 ·have C:d+((0:Nat):Int)*1=d:=by simp
  have D:(((f-d).toNat:Nat):Int)-((0:Nat):Int)=Builtin.Range.rangeSize d f 1:=by rw[rangeSize_one];split<;>omega
  show IsRangeIter _ _ (d+((0:Nat):Int)*1) ((((f-d).toNat:Nat):Int)-((0:Nat):Int)) 1;rw[C,D];exact Z0 _ rfl
 ·have e:b=(s.heap.push {cls:=.type "range",data:=.fields #[.int d t,.int f u,.int 1 v]}).objs.size:=by simpa using B
  subst e;exact m.fpOk (Zl _) (m.hok.fresh (Zl _))
def iRng1(d:TA):TI:=λe H R=>d e H λf g=>∃j:Int,f=[.int j] /\ -(2^62)<=j/\j<2^62/\R (Itr 0 j.toNat) g
def zik{a:Expr}{g:TA}{p pos:Pos}(l:Gl X "range")(m:X.mg "range" = none)(n:PA X [a] g)(o:starEach [a] X.env=[(false,eval a X.env)]:=by rfl):PI X tg (.Call (.Name "range" p) [a] [] pos) (iRng1 g):=by
 intro d s u H R I h;refine Call_ (zgk I l m boot_range (Y8 (thn (n pos d s u H _ I h) λB C ⟨D,E,v,w,f⟩=>?_) o rfl));obtain⟨j,e,f,z,q⟩:=f
 subst e;cases w with
 |cons r A=>
  cases A;obtain⟨t,rfl⟩:=r
  exact call_range_1 (ydg v vB vB f z (by simpa using q))
def tFor(n:TI)(g:TG)(o:TS):TS:=λD d H=>n d H λJ p=>∃W:Nat->Nat->St->Hp->Prop,(∃m,W 0 m d p)/\∀i m d H,W i m d H ->
 (J.stop i H/\D.nx d H)\/(J.go i H/\∃N:St->Hp->Prop,(∀e f,N e f->∃l,l<m/\W (i+1) l e f)/\∀x f,J.yld i H x f->g x d f λh q=>o {D with nx:=N,ct:=N,bk:=D.nx} h q)
def zkh(d:List Addr)(h:Heap):List (Addr×Obj):=d.filterMap λb=>(h.get? b).map λo=>(b,o)
def zdq{d:List Addr}{h:Heap}{b:Addr}{o:Obj}(f:b∈d)(e:h.get? b=some o):(b,o)∈zkh d h:=Ur.mpr ⟨b,f,by rw[e];rfl⟩
def zxw{d:List Addr}{h:Heap}{p:Addr×Obj}(f:p∈zkh d h):p.1∈d/\h.get? p.1=some p.2:=by
 obtain⟨b,g,e⟩:=Ur.mp f
 cases q:h.get? b with
 |none=>rw[q] at e;cases e
 |some o=>
  rw[q] at e;have l:(b,o)=p:=Zw e;subst l;exact⟨g,q⟩
def Inv.pinned{pins:List (Addr×Obj)}{σ:St}{H:Hp}{s:Shared}{f:List Addr}(I:Inv X pins σ H s)(l:∀b∈f,FpOk X pins H b)(m:∀b∈f,∃o,s.heap.get? b=some o/\∀v,o.data ≠ .cell v):Inv X (pins++zkh f s.heap) σ H s:=
 I.pins_of λp n=>(Y6.mp n).elim (λz=>I.pin p (Ym _ z)) λz=>by
  obtain⟨g,e⟩:=zxw z
  obtain⟨q,r,t,_⟩:=l p.1 g
  obtain⟨o,h,d⟩:=m p.1 g
  rw[e] at h;cases h;exact⟨e,q,r,t,d⟩
def Inv.unpinned{pins pl:List (Addr×Obj)}{σ:St}{H:Hp}{s:Shared}(I:Inv X (pins++pl) σ H s):Inv X pins σ H s:=I.pins_of λp d=>I.pin p (Ym _ (Kb _ d))
def zxm{q:Expr}{L:List Stmt}{wi:TI}{g:TG}{tb:TS}{pos:Pos}(P:PassesOwn (model X.prog X.w) X.A X.env X.xe)(hc:X.calm=true)(hi:PI X tg q wi)(hg:PG X tg g)(t:PSs X L tb)
 (hs:∀x,foldedSetIterable q X.env x=pure x:=by intro _;rfl):PS X (.For tg q L [] pos) (tFor wi g tb):=by
 intro l s σ H D I h;refine wpAny_For (thn (hi l s σ H _ I h) λv s1 h1=>thn h1 λa2 s2 h2=>?_) hs;obtain⟨it,Q,tn,J,H2,e,I2,T,V,f2,W,⟨m0,w0⟩,turn⟩:=h2
 subst e;have z:∀{K:Hp},(∀b∈Q,K b=none)->∀b∈Q,FpOk X l K b:=λhn b t=>⟨hn b t,(f2 b t).2⟩
 refine codeAny_forLoop_any (λn s'=>∃i B K,Inv X l B K s'/\tn i s'.heap/\(∀b∈Q,K b=none)/\W i n B K) ?_ m0 ⟨0,σ,H2,I2,V,λb t=>(f2 b t).1,w0⟩;rintro n s3 ⟨i,C,H3,I3,R,S,w3⟩
 rcases turn i n C H3 w3 with⟨stop,qn⟩|⟨go,N,hN,step⟩
 ·refine Ke P (thn (T.done X rfl rfl rfl hc i l s3 C H3 X.xe I3 (z S) R stop) λr s4 ⟨Y,I4⟩=>?_);subst Y;exact Um ⟨C,H3,I4,qn⟩
 ·refine Ke P (thn (T.item X rfl rfl rfl hc i l s3 C H3 X.xe I3 (z S) R go) λr s4 ⟨u,Y,h4⟩=>?_);subst Y;refine Ke P (thn h4 λ_ s5 ⟨x,H5,I5,r5,y5,O,Z⟩=>?_);have a0:=I5.pinned (z Z) (T.obj _ _ O);refine Ke P (thn (hg _ s5 C H5 x u _ a0 r5 (step x H5 y5)) λ_ s6 ⟨a1,H6,I6,q6⟩=>?_);refine Ke P (thn (t _ s6 a1 H6 _ I6 q6) λf s7 M=>?_);have E:∀{p:St}{F:Hp},Inv X (l++zkh Q s5.heap) p F s7->N p F->∃m,m<n/\∃i B K,Inv X l B K s7/\tn i s7.heap/\(∀b∈Q,K b=none)/\W i m B K:=λ{p F} G U=>by
   obtain⟨m',hm,w7⟩:=hN p F U
   refine⟨m',hm,i+1,p,F,G.unpinned,T.keep _ _ _ O λb t o e=>(G.pin (b,o) (Ym _ (Ym _ (zdq t e)))).1,λb t=>?_,w7⟩
   obtain⟨o,e,d⟩:=T.obj _ _ O b t
   exact(G.pin (b,o) (Ym _ (Ym _ (zdq t e)))).2.1
  cases f with
  |next=>obtain⟨p,F,G,U⟩:=M;exact E G U
  |cont=>obtain⟨p,F,G,U⟩:=M;exact E G U
  |brk=>obtain⟨p,F,G,M⟩:=M;exact⟨p,F,G.unpinned,M⟩
  |ret v=>obtain⟨x7,p,F,G,r7,M⟩:=M;exact⟨x7,p,F,G.unpinned,r7,M⟩
end
def zzl{q:Int}{n:Nat}{g:TG}{s:TS}{D:Ends}{d:St}{H:Hp}(f:Nat->St->Hp->Prop)(u:f 0 d H)
 (v:∀i d H,i<n->f i d H->g (.int (q+i)) d H λh r=>s {D with nx:=f (i+1),ct:=f (i+1),bk:=D.nx} h r)(w:∀d H,f n d H->D.nx d H):
  ∃W:Nat->Nat->St->Hp->Prop,(∃m,W 0 m d H)/\∀i m d H,W i m d H ->
   ((Itr q n).stop i H/\D.nx d H)\/((Itr q n).go i H/\∃N:St->Hp->Prop,(∀σ' l,N σ' l->∃t,t<m/\W (i+1) t σ' l)/\∀x l,(Itr q n).yld i H x l->g x d l λh r=>s {D with nx:=N,ct:=N,bk:=D.nx} h r):=by
 refine⟨λi m d H=>m=n-i/\i<=n/\f i d H,⟨n,by simp,Yj _,u⟩,?_⟩
 rintro i m d H ⟨rfl,A,p⟩
 by_cases o:i<n
 ·refine .inr ⟨o,f (i+1),λσ' l z=>⟨n-(i+1),by omega,rfl,o,z⟩,λx l y=>?_⟩;obtain⟨e,y⟩:=y
  subst e y;exact v i d _ o p
 ·have e:i=n:=by omega
  subst e;exact .inl ⟨Zl _,w d H p⟩
end L2
namespace L2
open PySem PySem.Spec PyProof.Rows
abbrev R2:=V->V->Hp->VK->Prop
def OpR(X:Cx)(f:Value->Value->Sem Value)(r:R2):Prop:=
 ∀(d:List (Addr×Obj)) (s:Shared) (e:St) (H:Hp) (x y:V) (v u:Value) (Q:VK),Inv X d e H s->RelV x v->RelV y u->r x y H Q ->
  wpAny (model X.prog X.w) X.A (f v u) (EP X d e Q) X.xe s
def UnR(X:Cx)(f:Value->Sem Value)(r:V->Hp->VK->Prop):Prop:=
 ∀(d:List (Addr×Obj)) (s:Shared) (e:St) (H:Hp) (x:V) (v:Value) (Q:VK),Inv X d e H s->RelV x v->r x H Q ->
  wpAny (model X.prog X.w) X.A (f v) (EP X d e Q) X.xe s
def zjx(X:Cx)(f:Value)(r:List V->Hp->VK->Prop):Prop:=
 ∀(d:List (Addr×Obj)) (s:Shared) (e:St) (H:Hp) (g:List V) (h:List Value) (Q:VK),Inv X d e H s->Vals g h->r g H Q ->
  wpAny (model X.prog X.w) X.A (call f h) (EP X d e Q) X.xe s
def tOp(r:R2)(e f:TE):TE:=λd H Q=>e d H λx g=>f d g λy h=>r x y h Q
def tUn(r:V->Hp->VK->Prop)(d:TE):TE:=λe H Q=>d e H λx f=>r x f Q
def rI(C:Int->Int->Prop)(g:Int->Int->V):R2:=λx y H Q=>∃i j,x=.int i/\y=.int j/\C i j/\Q (g i j) H
def rI0(g:Int->Int->V):R2:=λx y H Q=>∃i j,x=.int i/\y=.int j/\Q (g i j) H
def rU(g:Int->V):V->Hp->VK->Prop:=λx H Q=>∃i,x=.int i/\Q (g i) H
section
variable{X:Cx}{a b c:Expr}{ta tb tc:TE}{pos:Pos}
def binT(p:PE X a ta)(q:PE X b tb){d:List (Addr×Obj)}{s:Shared}{e:St}{H:Hp}{R:V->V->Hp->Prop}(I:Inv X d e H s)
 (h:ta e H λx o=>tb e o λy g=>R x y g){Q:Value->Shared->Prop}{f:Value->Value->Sem Value}
 (r:∀v u n x y g,Inv X d e g n->RelV x v->RelV y u->R x y g->wpAny (model X.prog X.w) X.A (f v u) Q X.xe n):
  wpAny (model X.prog X.w) X.A (eval a X.env) (λv l=>wpAny (model X.prog X.w) X.A (eval b X.env) (λu m=>wpAny (model X.prog X.w) X.A (f v u) Q X.xe m) X.xe l) X.xe s:=by
 refine thn (p d s e H _ I h) λv t ⟨x,o,z,B,C⟩=>?_;refine thn (q d t e o _ z C) λu n ⟨y,g,D,E,F⟩=>?_;exact r v u n x y g D B E F
def yle{e:Operator}{r:R2}(f:OpR X (binaryOp e) r)(g:PE X a ta)(l:PE X b tb):PE X (.BinOp a e b pos) (tOp r ta tb):=by
 intro d s m H Q I h;exact wpAny_BinOp (binT g l I h λv u n x y o p t w q=>f d n m o x y v u Q p t w q)
def pe_un{e:UnaryOp}{r:V->Hp->VK->Prop}(g:UnR X (unaryOp e) r)(l:PE X a ta):PE X (.UnaryOp e a pos) (tUn r ta):=by
 intro d s f H Q I h;exact UnaryOp_ (thn (l d s f H _ I h) λv m ⟨x,n,o,p,q⟩=>g d m f n x v Q o p q)
def opI{f:Value->Value->Sem Value}{C:Int->Int->Prop}{g:Int->Int->Int}
 (d:∀(i j:Int) (t u:Tok) (s:Shared) (Q:Value->Shared->Prop) (E:Value->Shared->Prop),C i j->Q (.int (g i j) s.toks) {s with toks:=s.toks+1}->wpAny (model X.prog X.w) X.A (f (.int i t) (.int j u)) Q E s):
  OpR X f (rI C λi j=>.int (g i j)):=by
 intro e s p H x y v u Q I l m h;obtain⟨i,j,rfl,rfl,n,q⟩:=h
 obtain⟨t,rfl⟩:=l
 obtain⟨o,rfl⟩:=m
 exact d i j t o s _ _ n ⟨.int (g i j),H,I.tok _,⟨_,rfl⟩,q⟩
def opI0{f:Value->Value->Sem Value}{g:Int->Int->Int}
 (d:∀(i j:Int) (t u:Tok) (s:Shared) (Q:Value->Shared->Prop) (E:Value->Shared->Prop),Q (.int (g i j) s.toks) {s with toks:=s.toks+1}->wpAny (model X.prog X.w) X.A (f (.int i t) (.int j u)) Q E s):
  OpR X f (rI0 λi j=>.int (g i j)):=by
 intro e s o H x y v u Q I l m h;obtain⟨i,j,rfl,rfl,q⟩:=h
 obtain⟨t,rfl⟩:=l
 obtain⟨n,rfl⟩:=m
 exact d i j t n s _ _ ⟨.int (g i j),H,I.tok _,⟨_,rfl⟩,q⟩
def opB0{f:Value->Value->Sem Value}{g:Int->Int->Bool}
 (d:∀(i j:Int) (t u:Tok) (s:Shared) (Q:Value->Shared->Prop) (E:Value->Shared->Prop),Q (.bool (g i j)) s->wpAny (model X.prog X.w) X.A (f (.int i t) (.int j u)) Q E s):
  OpR X f (rI0 λi j=>.bl (g i j)):=by
 intro e s o H x y v u Q I l m h;obtain⟨i,j,rfl,rfl,q⟩:=h
 obtain⟨t,rfl⟩:=l
 obtain⟨n,rfl⟩:=m
 exact d i j t n s _ _ ⟨.bl (g i j),H,I,rfl,q⟩
def CPow(i j:Int):Prop:=0<=j/\j<=1000000/\i.natAbs<2^64
def op_add:OpR X (binaryOp .Add) (rI0 λi j=>.int (i+j)):=opI0 λ_ _ _ _ _ _ _ q=>add_int q
def op_sub:OpR X (binaryOp .Sub) (rI0 λi j=>.int (i-j)):=opI0 λ_ _ _ _ _ _ _ q=>sub_int q
def yln:OpR X (binaryOp .Mod) (rI (λ_ j=>j≠0) λi j=>.int (i.fmod j)):=opI λ_ _ _ _ _ _ _ d q=>mod_int' d q
def op_pow:OpR X (binaryOp .Pow) (rI CPow λi j=>.int (i^j.toNat)):=opI λ_ _ _ _ _ _ _ d q=>pow_int_small d.1 d.2.1 d.2.2 q
def unI{f:Value->Sem Value}{g:Int->Int}
 (d:∀(i:Int) (t:Tok) (s:Shared) (Q:Value->Shared->Prop) (E:Value->Shared->Prop),Q (.int (g i) s.toks) {s with toks:=s.toks+1}->wpAny (model X.prog X.w) X.A (f (.int i t)) Q E s):
  UnR X f (rU λi=>.int (g i)):=by
 intro e s m H x v Q I l h;obtain⟨i,rfl,q⟩:=h
 obtain⟨t,rfl⟩:=l
 exact d i t s _ _ ⟨.int (g i),H,I.tok _,⟨_,rfl⟩,q⟩
def un_neg:UnR X (unaryOp .USub) (rU λi=>.int (-i)):=unI λ_ _ _ _ _ q=>neg_int q
end
def scal:V->V->Bool
 |.non,.non=>true|.non,.int _=>true|.int _,.non=>true|.non,.bl _=>true|.bl _,.non=>true|.non,.str _=>true|.str _,.non=>true
 |.int _,.int _=>true|.bl _,.bl _=>true|.str _,.str _=>true|.byt _,.byt _=>true
 |.int _,.str _=>true|.str _,.int _=>true|.bl _,.str _=>true|.str _,.bl _=>true
 |_,_=>false
def rEq:R2:=λx y H Q=>scal x y=true/\Q (.bl (decide (x=y))) H
def rNe:R2:=λx y H Q=>scal x y=true/\Q (.bl (!decide (x=y))) H
def zlv{i j:Int}:decide (V.int i=V.int j)=(i == j):=by
 rw[K9];simp
def zsz{i j:Bool}:decide (V.bl i=V.bl j)=(i == j):=by
 rw[K9];simp
def zzx{i j:Str}:decide (V.str i=V.str j)=(i == j):=by
 rw[K9];simp
def zzy{i j:Array UInt8}:decide (V.byt i=V.byt j)=(i.toList == j.toList):=by
 rw[K9];cases i;cases j;simp
section
variable{X:Cx}{a b c:Expr}{ta tb tc:TE}{pos:Pos}
def zai{d:List (Addr×Obj)}{f:St}{H:Hp}{s:Shared}{Q:VK}{k g:Bool}(I:Inv X d f H s)(q:Q (.bl k) H)(e:k=g):EP X d f Q (.bool g) s:=by
 subst e;exact⟨.bl k,H,I,rfl,q⟩
def op_eq:OpR X (compareOp .Eq) rEq:=by
 intro l s m H x y v u Q I g d h;obtain⟨f,q⟩:=h
 cases x with
 |non=>
  cases g;cases y with
  |non=>cases d;exact PySem.EqNone.eq_none_none (zai I q vC)
  |bl j=>cases d;exact PySem.EqNone.eq_none_bool (zai I q vC)
  |int j=>obtain⟨e,rfl⟩:=d;exact PySem.EqNone.eq_none_int (zai I q vC)
  |str j=>obtain⟨e,rfl⟩:=d;exact PySem.EqNone.eq_none_str (zai I q vC)
  |_=>exact absurd (show false=true from f) Zz
 |bl i=>
  cases g;cases y with
  |non=>cases d;exact PySem.EqNone.eq_bool_none (zai I q vC)
  |bl j=>cases d;exact eq_bool (zai I q zsz)
  |str j=>obtain⟨e,rfl⟩:=d;exact PySem.EqMixed.eq_bool_str (zai I q vC)
  |_=>exact absurd (show false=true from f) Zz
 |int i=>
  obtain⟨t,rfl⟩:=g
  cases y with
  |non=>cases d;exact PySem.EqNone.eq_int_none (zai I q vC)
  |int j=>obtain⟨e,rfl⟩:=d;exact eq_int (zai I q zlv)
  |str j=>obtain⟨e,rfl⟩:=d;exact PySem.EqMixed.eq_int_str (zai I q vC)
  |_=>exact absurd (show false=true from f) Zz
 |str i=>
  obtain⟨t,rfl⟩:=g
  cases y with
  |non=>cases d;exact PySem.EqNone.eq_str_none (zai I q vC)
  |bl j=>cases d;exact PySem.EqMixed.eq_str_bool (zai I q vC)
  |int j=>obtain⟨e,rfl⟩:=d;exact PySem.EqMixed.eq_str_int (zai I q vC)
  |str j=>obtain⟨e,rfl⟩:=d;exact eq_str (zai I q zzx)
  |_=>exact absurd (show false=true from f) Zz
 |byt i=>
  obtain⟨t,rfl⟩:=g
  cases y with
  |byt j=>obtain⟨e,rfl⟩:=d;exact PySem.W.eq_bytes (zai I q zzy)
  |_=>exact absurd (show false=true from f) Zz
 |_=>cases y<;>exact absurd (show false=true from f) Zz
def op_ne:OpR X (compareOp .NotEq) rNe:=by
 intro l s m H x y v u Q I g d h;obtain⟨f,q⟩:=h
 cases x with
 |non=>
  cases g;cases y with
  |non=>cases d;exact PySem.EqNone.ne_none_none (zai I q vC)
  |bl j=>cases d;exact PySem.EqNone.ne_none_bool (zai I q vC)
  |int j=>obtain⟨e,rfl⟩:=d;exact PySem.EqNone.ne_none_int (zai I q vC)
  |str j=>obtain⟨e,rfl⟩:=d;exact PySem.EqNone.ne_none_str (zai I q vC)
  |_=>exact absurd (show false=true from f) Zz
 |bl i=>
  cases g;cases y with
  |non=>cases d;exact PySem.EqNone.ne_bool_none (zai I q vC)
  |bl j=>cases d;exact ne_bool (zai I q (congrArg not zsz))
  |str j=>obtain⟨e,rfl⟩:=d;exact PySem.EqMixed.ne_bool_str (zai I q vC)
  |_=>exact absurd (show false=true from f) Zz
 |int i=>
  obtain⟨t,rfl⟩:=g
  cases y with
  |non=>cases d;exact PySem.EqNone.ne_int_none (zai I q vC)
  |int j=>obtain⟨e,rfl⟩:=d;exact ne_int (zai I q (congrArg not zlv))
  |str j=>obtain⟨e,rfl⟩:=d;exact PySem.EqMixed.ne_int_str (zai I q vC)
  |_=>exact absurd (show false=true from f) Zz
 |str i=>
  obtain⟨t,rfl⟩:=g
  cases y with
  |non=>cases d;exact PySem.EqNone.ne_str_none (zai I q vC)
  |bl j=>cases d;exact PySem.EqMixed.ne_str_bool (zai I q vC)
  |int j=>obtain⟨e,rfl⟩:=d;exact PySem.EqMixed.ne_str_int (zai I q vC)
  |str j=>obtain⟨e,rfl⟩:=d;exact ne_str (zai I q (congrArg not zzx))
  |_=>exact absurd (show false=true from f) Zz
 |byt i=>
  obtain⟨t,rfl⟩:=g
  cases y with
  |byt j=>obtain⟨e,rfl⟩:=d;exact PySem.W.ne_bytes (zai I q (congrArg not zzy))
  |_=>exact absurd (show false=true from f) Zz
 |_=>cases y<;>exact absurd (show false=true from f) Zz
def op_lt:OpR X (compareOp .Lt) (rI0 λi j=>.bl (decide (i<j))):=opB0 λ_ _ _ _ _ _ _ q=>lt_int q
def op_le:OpR X (compareOp .LtE) (rI0 λi j=>.bl (decide (i<=j))):=opB0 λ_ _ _ _ _ _ _ q=>le_int q
def op_gt:OpR X (compareOp .Gt) (rI0 λi j=>.bl (decide (j<i))):=opB0 λ_ _ _ _ _ _ _ q=>gt_int q
def op_ge:OpR X (compareOp .GtE) (rI0 λi j=>.bl (decide (j<=i))):=opB0 λ_ _ _ _ _ _ _ q=>ge_int q
def op_isN:OpR X (compareOp .Is) (λx y H Q=>y=.non/\Q (.bl (decide (x=.non))) H):=by
 intro d s g H x y v u Q I e f h;obtain⟨rfl,q⟩:=h
 cases f;refine is_none_gen (zai I q ?_);cases x<;>first
  |(cases e;rfl)
  |(obtain⟨t,rfl⟩:=e;rfl)
def ylm:OpR X (compareOp .IsNot) (λx y H Q=>y=.non/\Q (.bl (!decide (x=.non))) H):=by
 intro d s g H x y v u Q I e f h;obtain⟨rfl,q⟩:=h
 cases f;refine isnot_none_gen (zai I q ?_);cases x<;>first
  |(cases e;rfl)
  |(obtain⟨t,rfl⟩:=e;rfl)
def ylh{e:CmpOp}{r:R2}(f:OpR X (compareOp e) r)(g:PE X a ta)(l:PE X b tb)(m:behindInMarks e b=false):PE X (.Compare a [e] [b] pos) (tOp r ta tb):=by
 intro d s n H Q I h;exact wpAny_Compare1 (binT g l I h λv u o x y p t w z q=>f d o n p x y v u Q t w z q) m
def tTest(t:TE):TT:=λd H Q=>t d H λx e=>∃k,x=.bl k/\Q k e
def yky{f:CmpOp}{r:R2}(l:OpR X (compareOp f) r)(m:PE X a ta)(n:PE X b tb)(o:behindInMarks f b=false):PT X (.Compare a [f] [b] pos) (tTest (tOp r ta tb)):=by
 intro d s g H Q I h;refine wpAny_isTrue_Compare1 (thn (m d s g H _ I h) λv p ⟨x,q,t,w,A⟩=>thn (n d p g q _ t A) λu B ⟨y,C,D,E,F⟩=>
  thn (l d B g C x y v u _ D w E F) λc L ⟨z,H3,G,J,k,e,K⟩=>?_) o
 subst e;cases J;exact Ki ⟨H3,G,K⟩
def zsj:(sizeLine:Nat)<2^63:=by rw[K3];decide
def zkp{x:V}{d:List Value}(r:Vals [x] d):∃u,d=[u]/\RelV x u:=by
 cases r with
 |cons e f=>cases f;exact⟨_,rfl,e⟩
def yiq{x y:V}{d:List Value}(r:Vals [x,y] d):∃u e,d=[u,e]/\RelV x u/\RelV y e:=by
 cases r with
 |cons f g=>
  cases g with
  |cons h l=>cases l;exact⟨_,_,rfl,f,h⟩
def yfs:zjx X (.builtin "abs") (λd H Q=>∃i,d=[.int i]/\Q (.int (if i<0 then -i else i)) H):=by
 intro e s f H d g Q I r h;obtain⟨i,rfl,q⟩:=h
 obtain⟨u,rfl,t,rfl⟩:=zkp r
 exact call_abs_int λu l=>⟨.int (if i<0 then -i else i),H,I.tok _,⟨_,rfl⟩,q⟩
def yak(g:X.calm=true):zjx X (.builtin "max") (λe H Q=>∃i j,e=[.int i,.int j]/\Q (.int (if j > i then j else i)) H):=by
 intro f s l H e m Q I r h;obtain⟨i,j,rfl,q⟩:=h
 obtain⟨u,n,rfl,⟨t,rfl⟩,⟨o,rfl⟩⟩:=yiq r
 refine max_two_ints (I.ok.hd g) λp v k=>⟨_,H,I.kept k,?_,q⟩
 by_cases d:j > i
 ·rw[if_pos d,if_pos d];exact⟨_,rfl⟩
 ·rw[if_neg d,if_neg d];exact⟨_,rfl⟩
def yai(g:X.calm=true):zjx X (.builtin "min") (λe H Q=>∃i j,e=[.int i,.int j]/\Q (.int (if j<i then j else i)) H):=by
 intro f s l H e m Q I r h;obtain⟨i,j,rfl,q⟩:=h
 obtain⟨u,n,rfl,⟨t,rfl⟩,⟨o,rfl⟩⟩:=yiq r
 refine min_two_ints (I.ok.hd g) λp v k=>⟨_,H,I.kept k,?_,q⟩
 by_cases d:j<i
 ·rw[if_pos d,if_pos d];exact⟨_,rfl⟩
 ·rw[if_neg d,if_neg d];exact⟨_,rfl⟩
end
end L2
namespace L2
open PySem PySem.Spec PyProof.Rows
structure ObjM(h:Heap)(x dx C:Addr)(mA:Str->Option Value):Prop where
 obj:h.get? x=some (PySem.W.instObj C dx)
 ns:h.Ns1 dx mA
 ne:dx≠x
def zys{h:Heap}{f:Addr}{g:Str->Option Value}(n:h.Ns1 f g):∃l,h.get? f=some l/\∀name,PySem.W.lookIn name l=some (g name):=by
 obtain⟨o,m,A,p,r,s,_,u⟩:=n
 refine⟨o,p,λname=>?_⟩
 have e:=u name;unfold nsFind findBy at e;rw[<-Array.find?_toList] at e;unfold PySem.W.lookIn;rw[r];dsimp only;split
 ·rename_i y q;rw[q] at e;exact congrArg some e
 ·rename_i q;rw[q] at e;have a:m.toList.any (·.refKey)=false:=by
   rw[List.any_eq_false];intro y v;obtain⟨z,t,d⟩:=s y (Uc.mp v)
   simp[DictEntry.refKey,d]
  have w:¬m.toList.any (·.refKey)=true:=by rw[a];exact Zz
  rw[if_neg w];exact congrArg some e
def ObjM.look{h:Heap}{x dx C:Addr}{mA:Str->Option Value}(I:ObjM h x dx C mA):∃d,PySem.W.InstAt h x (PySem.W.instObj C dx) C (some d)/\∀name,PySem.W.lookIn name d=some (mA name):=
 let ⟨d,e,f⟩:=zys I.ns
 ⟨d,⟨I.obj,rfl,rfl,e⟩,f⟩
section
variable{prog:Program}{w:World}{A:Around}{E:Value->Shared->Prop}{s:Shared}{K:vE}{x dx C f:Addr}{mA:Str->Option Value}{name:Str}{v:Value}
def yms{d:Bool}{Q:Value->Shared->Prop}(X:K.In s.heap)(I:ObjM s.heap x dx C mA)(f:PySem.W.plainGet K C name=true)(g:PySem.W.hasDictIn K C=true)
 (l:PySem.W.findIn K (.ref C) name=some none)(m:mA name=some v)(e:PySem.W.handedIn v=true)(h:Q v {s with toks:=s.toks+1}):
  wpAny (model prog w) A (getAttr (.ref x) name d) Q E s:=by
 obtain⟨o,J,n⟩:=I.look
 exact PySem.W.get_value X J (PySem.W.plainGet_of f).1 (PySem.W.findObj_own g l rfl (by rw[n,m])) e h
def yjx{o:List Str}{Q:Unit->Shared->Prop}(X:K.In s.heap)(I:ObjM s.heap x dx C mA)
 (p:PySem.W.findIn K (.ref C) "__setattr__" = some (some (.builtin "object.__setattr__")))(q:PySem.W.plainOver K C=true)(t:PySem.W.takerIn K C name=some none)(u:PySem.W.hasDictIn K C=true)
 (z:PySem.Within mA o)(B:o.length<=sizeLine)
 (h:∀f,ObjM f x dx C (λy=>if y=name then some v else mA y)->Heap.SameBut dx s.heap f->Q () {s with heap:=f,toks:=s.toks+2}):
  wpAny (model prog w) A (setAttr (.ref x) name v) Q E s:=by
 obtain⟨L,J,M⟩:=I.look
 refine PySem.W.set_plain X J p (PySem.W.osa_open (s:={s with toks:=s.toks+1}) (r:=none) X J q t λb=>?_);obtain⟨N,D,g⟩:=PySem.W.any_some u
 have F:s.heap.get? x=some ⟨.ref C,some dx,.plain,#[]⟩:=I.obj;refine Zd (Zs (Zd (Zd (wpAny_loadPart F (Zd (PySem.W.Looks.here (s:={s with toks:=s.toks+1}) (PySem.W.looks_clsIn X D) ?_))))));rw[g];refine Zs (a:=some dx) (Zd (Zs (Zd ?_)));refine wpAny_nsSet1 (s:={s with toks:=s.toks+1}) I.ns λf d e=>?_;obtain⟨O,G,H,l,m,n⟩:=d.count (PySem.Within.cons name v z)
 refine Zd (wpAny_lookBehind l (by rw[m];exact pastItsLine_dict (Wc n (by rw[Zr];omega))) ?_);exact Zs (h _ ⟨(e.2 _ (Wz I.ne)).trans I.obj,d,I.ne⟩ e)
def yeg{R:Result->Shared->Prop}{e:List Value}{l:List (Str×Value)}(X:K.In s.heap)(m:PySem.W.makesIn K C=true)
 (n:PySem.W.findIn K (.ref C) "__init__" = some (some (.ref f)))(o:PySem.W.typeIn K (.ref f)=some (.type "function"))
 (h:codeAny (model prog w) (A.under (.builtin "type.__call__" ⟨.ref C::e,l⟩)) (.call (.ref f) ⟨.ref (s.heap.objs.size+1)::e,l⟩) (PySem.W.InitBack (s.heap.objs.size+1) R)
   {s with heap:=(s.heap.push PySem.W.emptyDict).push (PySem.W.instObj C s.heap.objs.size)}):
  codeAny (model prog w) A (.call (.ref C) ⟨e,l⟩) R s:=by
 obtain⟨p,g,d,t,os⟩:=s
 exact PySem.W.make_core (PySem.W.makes_of X m) (PySem.W.looks_findIn X n) (λself=>PySem.W.bind_fn X self o) (.inl rfl) h
end
def putF(f:Str)(v:V):List (Str×V)->List (Str×V)
 |[]=>[(f,v)]
 |(g,x)::r=>if g=f then(g,v)::r else(g,x)::putF f v r
theorem ziu(f g:Str)(v:V):∀m:List (Str×V),(putF f v m).lookup g=if g=f then some v else m.lookup g
 |[]=>by
  show List.lookup g [(f,v)]=_;by_cases h:g=f
  ·have d:(g == f)=true:=beq_iff_eq.mpr h;simp only[List.lookup,d,if_pos h]
  ·have d:(g == f)=false:=beq_eq_false_iff_ne.mpr h;simp only[List.lookup,d,if_neg h]
 |(k,x)::r=>by
  have n:=ziu f g v r;rw[show putF f v ((k,x)::r)=(if k=f then(k,v)::r else(k,x)::putF f v r) from rfl];by_cases l:k=f
  ·rw[if_pos l];by_cases h:g=k
   ·have d:(g == k)=true:=beq_iff_eq.mpr h;simp only[List.lookup,d,if_pos (h.trans l)]
   ·have d:(g == k)=false:=beq_eq_false_iff_ne.mpr h;simp only[List.lookup,d,if_neg (λe:g=f=>h (e.trans l.symm))]
  ·rw[if_neg l];by_cases h:g=k
   ·have d:(g == k)=true:=beq_iff_eq.mpr h;simp only[List.lookup,d,if_neg (λe:g=f=>l (h.symm.trans e))]
   ·have d:(g == k)=false:=beq_eq_false_iff_ne.mpr h;simp only[List.lookup,d];exact n
theorem ziw(f:Str)(v:V):∀d:List (Str×V),f∈(putF f v d).map (·.1)/\∀g,g∈d.map (·.1)->g∈(putF f v d).map (·.1)
 |[]=>⟨by simp[putF],λg h=>by simp at h⟩
 |(k,x)::r=>by
  obtain⟨m,n⟩:=ziw f v r
  rw[show putF f v ((k,x)::r)=(if k=f then(k,v)::r else(k,x)::putF f v r) from rfl];by_cases l:k=f
  ·rw[if_pos l];subst l;exact⟨by simp,λg h=>by simpa using h⟩
  ·rw[if_neg l];refine⟨?_,λg h=>?_⟩
   ·rw[Zx];exact Y0 _ m
   ·rw[Zx] at h |-;rcases Zg.mp h with e|e
    ·exact Zg.mpr (.inl e)
    ·exact Y0 _ (n g e)
theorem zcc(f:Str)(v:V):∀d:List (Str×V),(putF f v d).length<=d.length+1
 |[]=>by simp[putF]
 |(k,x)::r=>by
  have g:=zcc f v r;rw[show putF f v ((k,x)::r)=(if k=f then(k,v)::r else(k,x)::putF f v r) from rfl];by_cases e:k=f
  ·rw[if_pos e,Zr,Zr];omega
  ·rw[if_neg e,Zr,Zr];omega
def RelO.some_of{v:V}{o:Option Value}(r:RelO (some v) o):∃u,o=some u/\RelV v u:=by
 cases o with
 |none=>exact(show False from r).elim
 |some u=>exact⟨u,rfl,r⟩
def zzg{v:V}{u:Value}(r:RelV v u):PySem.W.handedIn u=true:=by
 cases v with
 |non=>cases(show u=Value.none from r);rfl
 |bl b=>cases(show u=Value.bool b from r);rfl
 |int i=>obtain⟨t,e⟩:=(show ∃t,u=Value.int i t from r);cases e;rfl
 |str x=>obtain⟨t,e⟩:=(show ∃t,u=Value.str x t from r);cases e;rfl
 |byt b=>obtain⟨t,e⟩:=(show ∃t,u=Value.bytes b t from r);cases e;rfl
 |flt b=>obtain⟨t,e⟩:=(show ∃t,u=Value.float b t from r);cases e;rfl
 |ref a=>cases(show u=Value.ref a from r);rfl
 |ty n=>cases(show u=Value.type n from r);rfl
section
variable{P:Program}{w:World}{H H':Hp}{h h':Heap}{a C dx:Addr}{fs fs':List (Str×V)}
def zyy(l:HOk P w H h)(e:H a=some (.ins C dx fs)):∃g,ObjM h a dx C g/\(∀f,RelO (fs.lookup f) (g f))/\PySem.Within g (fs.map (·.1))/\fs.length<=1000/\H dx=some (.own a):=by
 obtain⟨d,z,m,o,g,n,r,q⟩:=(show ObjOk P w H h a (.ins C dx fs) from l a _ e)
 exact⟨g,⟨o,n,m⟩,r,q,z,d⟩
end
structure Cls(K:vE)(C:Addr):Prop where
 pg:PySem.W.plainGet K C Str.empty=true
 hd:PySem.W.hasDictIn K C=true
 po:PySem.W.plainOver K C=true
 sa:PySem.W.findIn K (.ref C) "__setattr__" = some (some (.builtin "object.__setattr__"))
def Cls.get{K:vE}{C:Addr}(c:Cls K C)(f:Str):PySem.W.plainGet K C f=true:=c.pg
def NoAttr(K:vE)(C:Addr)(f:Str):Prop:=PySem.W.findIn K (.ref C) f=some none
def NoAttr.taker{K:vE}{C:Addr}{f:Str}(n:NoAttr K C f):PySem.W.takerIn K C f=some none:=by
 unfold PySem.W.takerIn;rw[show PySem.W.findIn K (.ref C) f=some none from n];rfl
section
variable{X:Cx}{pins:List (Addr×Obj)}{σ:St}{H:Hp}{s:Shared}{a C dx:Addr}{fs:List (Str×V)}{f:Str}{v:V}{A:Around}{E:Value->Shared->Prop}
def zur{b:Bool}{Q:Value->Shared->Prop}(I:Inv X pins σ H s)(e:H a=some (.ins C dx fs))(c:Cls X.K C)(n:NoAttr X.K C f)(l:fs.lookup f=some v)
 (h:∀u d,Inv X pins σ H d->RelV v u->Q u d):wpAny (model X.prog X.w) A (getAttr (.ref a) f b) Q E s:=by
 obtain⟨m,O,r,_,_,_⟩:=zyy I.hok e
 obtain⟨u,p,g⟩:=RelO.some_of (v:=v) (o:=m f) (by rw[<-l];exact r f)
 exact yms I.kIn O (c.get f) c.hd n p (zzg g) (h u _ (I.tok _) g)
def zud{y:V}{u:Value}{Q:Unit->Shared->Prop}(I:Inv X pins σ H s)(e:H a=some (.ins C dx fs))(c:Cls X.K C)(n:NoAttr X.K C f)(N:fs.length<1000)(v:RelV y u)
 (h:∀l,Inv X pins σ (upd H a (.ins C dx (putF f y fs))) l->Q () l):wpAny (model X.prog X.w) A (setAttr (.ref a) f u) Q E s:=by
 obtain⟨m,O,r,p,_,t⟩:=zyy I.hok e
 have B:(fs.map (·.1)).length<=sizeLine:=by rw[Zc,K3];omega
 refine yjx I.kIn O c.sa c.po n.taker c.hd p B λD d F=>h _ ?_
 have G:∃o,D.get? dx=some o:=let ⟨o,_,_,J,_⟩:=d.ns;⟨o,J⟩;refine I.write (x:=a) (e:=dx) (by rw[e];exact True.intro) (.inr t) (λb q L z=>(F.2 b L).trans z) G ?_;refine⟨by rw[Bt O.ne];exact t,?_,O.ne,d.obj,_,d.ns,λg=>?_,λg M=>?_⟩
 ·have:=zcc f y fs;omega
 ·show RelO ((putF f y fs).lookup g) (if g=f then some u else m g);rw[ziu];by_cases q:g=f
  ·rw[if_pos q,if_pos q];exact v
  ·rw[if_neg q,if_neg q];exact r g
 ·by_cases q:g=f
  ·rw[q];exact(ziw f y fs).1
  ·refine(ziw f y fs).2 g (p g λz=>M ?_);show(if g=f then some u else m g)=none;rw[if_neg q];exact z
def Inv.made(I:Inv X pins σ H s):Inv X pins σ (upd (upd H s.heap.objs.size (.own (s.heap.objs.size+1))) (s.heap.objs.size+1) (.ins C s.heap.objs.size []))
  {s with heap:=(s.heap.push PySem.W.emptyDict).push (PySem.W.instObj C s.heap.objs.size)}:=by
 have d:(s.heap.push PySem.W.emptyDict).get? s.heap.objs.size=some PySem.W.emptyDict:=Z0 s.heap rfl;have g:((s.heap.push PySem.W.emptyDict).push (PySem.W.instObj C s.heap.objs.size)).get? (s.heap.objs.size+1)=some (PySem.W.instObj C s.heap.objs.size):=by
  have:=Z0 (s.heap.push PySem.W.emptyDict) (o:=PySem.W.instObj C s.heap.objs.size) rfl
  rwa [Qy] at this
 have h:(s.heap.push PySem.W.emptyDict).Ns s.heap.objs.size (λ_=>none):=⟨PySem.W.emptyDict,#[],_,d,rfl,(λe l=>absurd l vC),λ_=>rfl⟩;have m:=I.laid (a:=s.heap.objs.size) (o:=.own (s.heap.objs.size+1)) (h':=s.heap.push PySem.W.emptyDict) (t':=s.toks) (λb u q=>Ze _ q) (Zl _) ⟨_,d⟩;refine m.laid (a:=s.heap.objs.size+1) (o:=.ins C s.heap.objs.size []) (t':=s.toks) (λb u q=>Ze _ q) (Gf (Qy _ _)) ?_;have f:s.heap.objs.size≠s.heap.objs.size+1:=Yi (Wx _);refine⟨by rw[Bt f,Bv],Yj _,f,g,λ_=>none,(Heap.Ns1.of_empty h).at λo q=>Ze _ q,λ_=>True.intro,λy n=>absurd rfl n⟩
def yov{d:Program}{w:World}{env:Env}{e:Expr}{f:Str}{pos:Pos}{s:Shared}{Q:Value->Shared->Prop}(l:attributeBase e f env (eval e env)=eval e env)
 (h:wpAny (model d w) A (eval e env) (λo g=>wpAny (model d w) A (getAttr o f true) Q E g) E s):wpAny (model d w) A (eval (.Attribute e f pos) env) Q E s:=
 Attribute_any_ h (by rw[arm_eval_Attribute,l])
end
def tFld(K:vE)(g:TE)(f:Str):TE:=λh H Q=>g h H λx d=>∃a C l e v,x=.ref a/\d a=some (.ins C l e)/\Cls K C/\NoAttr K C f/\e.lookup f=some v/\Q v d
def sFld(K:vE)(l m:TE)(f:Str):TS:=λD d H=>m d H λy n=>l d n λx g=>∃a C h e,x=.ref a/\g a=some (.ins C h e)/\Cls K C/\NoAttr K C f/\e.length<1000 /\
 D.nx d (upd g a (.ins C h (putF f y e)))
section
variable{X:Cx}{o e value:Expr}{f:Str}{pos pos' tpos:Pos}{ta tv:TE}
def pe_fld(g:PE X e ta)(m:attributeBase e f X.env (eval e X.env)=eval e X.env):PE X (.Attribute e f pos) (tFld X.K ta f):=by
 intro d s o H Q I h;refine yov m (thn (g d s o H _ I h) λu B ⟨x,p,r,t,a,C,D,E,v,ex,w,c,n,l,q⟩=>?_);subst ex;obtain rfl:u=Value.ref a:=t;exact zur r w c n l λF G z A=>⟨v,p,z,A,q⟩
def znf(g:PE X o ta)(m:PE X value tv)(p:swapsWith value (some (.Attribute o f pos')) pos.line X.env=pure false):PS X (.Assign [.Attribute o f pos'] value pos) (sFld X.K ta tv f):=by
 intro d s e H D I h;refine plainObj_wpAny_Assign_Attribute (thn (m d s e H _ I h) λu r ⟨y,t,v,w,q⟩=>thn (g d r e t _ v q) λz J ⟨x,L,A,B,a,C,M,N,ex,E,c,n,l,F⟩=>?_) p;subst ex;obtain rfl:z=Value.ref a:=B;exact zud A E c n l w λO G=>⟨e,_,G,F⟩
end
section
variable{X:Cx}{pins:List (Addr×Obj)}{σ:St}{H:Hp}{s:Shared}{A:Around}{E:Value->Shared->Prop}{Q:Value->Shared->Prop}{c:Value}{b:Bool}
end
end L2
namespace L2
open PySem PySem.Spec PyProof.Rows
structure Room(k:Nat)(A:Around):Prop where
 hd:A.handled=none
 dp:A.depth+3*k+5<recursionLimit
 un:A.units+16*k+200<cLine
def Room.mono{j k:Nat}{A:Around}(r:Room k A)(h:j<=k):Room j A:=⟨r.hd,by have:=r.dp;omega,by have:=r.un;omega⟩
theorem Room.deeper{k:Nat}{A:Around}(r:Room (k+1) A)(env:Env):Room k (A.deeper env):=
 ⟨r.hd,by have:=r.dp;show A.depth+1+3*k+5<_;omega,by have:=r.un;show A.units+3+16*k+200<_;omega⟩
def zup{A:Around}{C:Addr}{d:List Value}{e:List (Str×Value)}:(A.under (.builtin "type.__call__" ⟨.ref C::d,e⟩)).depth=A.depth+1:=by
 first|rfl|simp[Around.under,Code.weight,Code.isCreation,Code.isGuard,Code.isCaller,Code.frames,Code.isFrame,guardIds]
def zuo{A:Around}{C:Addr}{d:List Value}{e:List (Str×Value)}:(A.under (.builtin "type.__call__" ⟨.ref C::d,e⟩)).units=A.units+1:=by
 first|rfl|simp[Around.under,Code.cUnits,Code.frames,Code.isFrame]
def Room.make{k:Nat}{A:Around}(r:Room (k+1) A)(C:Addr)(d:List Value)(e:List (Str×Value)):Room k (A.under (.builtin "type.__call__" ⟨.ref C::d,e⟩)):=
 ⟨r.hd,by have:=r.dp;rw[zup];omega,by have:=r.un;rw[zuo];omega⟩
theorem Room.depth{k:Nat}{A:Around}(r:Room k A):A.depth<recursionLimit:=by have:=r.dp;omega
theorem Room.units{k:Nat}{A:Around}(r:Room k A):A.units+64<cLine:=by have:=r.un;omega
def tNil:TA:=λ_ H Q=>Q [] H
def zhz(e:TE)(f:TA):TA:=λd H Q=>e d H λx g=>f d g λh l=>Q (x::h) l
section
variable{X:Cx}{e:Expr}{es:List Expr}{te:TE}{t:TA}{pos:Pos}
def zgg:PA X [] tNil:=λ_ _ _ _ H Q I h=>G6 ⟨[],H,I,.nil,h⟩
def zct(g:PE X e te)(l:PA X es t)(m:starEach (e::es) X.env=(false,eval e X.env)::starEach es X.env:=by rfl):PA X (e::es) (zhz te t):=by
 intro pos d s f H Q I h;rw[m];show wpAny _ _ (spliced ((false,eval e X.env)::backTo pos (starEach es X.env))) _ _ s;refine Gv (thn (g d s f H _ I h) λu n ⟨x,o,p,q,r⟩=>?_);exact thn (l pos d n f o _ p r) λC D ⟨v,w,z,A,B⟩=>⟨x::v,w,z,.cons q A,B⟩
def tTup(t:TA):TE:=λf H Q=>t f H λd e=>d.length<=sizeLine/\∀p,e p=none->Q (.ref p) (upd e p (.tup d))
def tLst(t:TA):TE:=λf H Q=>t f H λd e=>d.length<=sizeLine/\∀p,e p=none->Q (.ref p) (upd e p (.lst d))
def pe_tup{m}(h:PA X es t):PE X (.Tuple es m pos) (tTup t):=by
 intro d s n H Q I o;refine wpAny_Tuple_spliced (thn (h pos d s n H _ I o) λp f ⟨v,g,l,r,z,q⟩=>⟨by rw[<-r.length];exact z,?_⟩);have w:g f.heap.objs.size=none:=l.hok.fresh (Zl _);refine⟨.ref f.heap.objs.size,upd g f.heap.objs.size (.tup v),l.laid (t':=f.toks) (λb u e=>Ze _ e) (Zl _) ?_,rfl,q _ w⟩
 exact⟨z,p,r,⟨_,Z0 _ rfl,rfl,_,rfl⟩⟩
def zxu(h:PA X es t):PE X (.List es pos) (tLst t):=by
 intro d s m H Q I n;refine wpAny_List_spliced (thn (h pos d s m H _ I n) λo f ⟨p,g,l,r,z,q⟩=>⟨by rw[<-r.length];exact z,?_⟩);have v:g f.heap.objs.size=none:=l.hok.fresh (Zl _);refine⟨.ref f.heap.objs.size,upd g f.heap.objs.size (.lst p),l.laid (t':=f.toks) (λb u e=>Ze _ e) (Zl _) ?_,rfl,q _ v⟩
 exact⟨z,o,0,r,Z0 _ rfl⟩
end
abbrev Sp:=List V->Hp->VK->XK->Prop
abbrev CXT:=List Env->Hp->Shared->XK->Value->Shared->Prop
structure Env0(P:Program)(w:World)(K:vE)(mg:Str->Option Value)(base:Heap)(A:Around)(outer:List Env)(s:Shared)(H:Hp):Prop where
 frames:A.frames=some outer
 mod:Mod K mg base
 bs:∀b o,base.get? b=some o->s.heap.get? b=some o/\H b=none
 bsz:base.objs.size<=s.heap.objs.size
 funs:s.heap.FunFrames base outer
 frf:∀b∈frs outer,H b=none
 hok:HOk P w H s.heap
 bare:AllBare s.gens
def CE(outer:List Env)(P:Program)(w:World)(H:Hp)(s:Shared)(Q:VK)(u:Value)(d:Shared):Prop:=
 ∃v e,d.os=s.os/\AllBare d.gens/\Un (frs outer) [] H e s.heap d.heap/\HOk P w e d.heap/\RelV v u/\Q v e
def CR(f:CXT)(outer:List Env)(P:Program)(w:World)(H:Hp)(s:Shared)(Q:VK)(E:XK)(r:Result)(d:Shared):Prop:=
 match r with
 |.ok (.ret u)=>CE outer P w H s Q u d
 |.ok _=>False
 |.error e=>f outer H s E e d
structure FnOk(P:Program)(w:World)(K:vE)(mg:Str->Option Value)(base:Heap)(CX:CXT)(k:Nat)(f:Addr)(fd:FuncData)(ps:List Str)(sp:Sp):Prop where
 len:∀vs H Q E,sp vs H Q E->vs.length=ps.length
 run:∀(A:Around) (outer:List Env) (s:Shared) (H:Hp) (args:Args) (us:List Value) (vs:List V) (Q:VK) (E:XK),Room k A->Env0 P w K mg base A outer s H->BindsTo s fd args (ps.zip us)->Vals vs us->sp vs H Q E ->
  codeAny (model P w) A (.call (.ref f) args) (CR CX outer P w H s Q E) s
theorem FnOk.mono{P:Program}{w:World}{K:vE}{mg:Str->Option Value}{base:Heap}{CX:CXT}{j k:Nat}{f:Addr}{fd:FuncData}{ps:List Str}{sp:Sp}(F:FnOk P w K mg base CX j f fd ps sp)(h:j<=k):
  FnOk P w K mg base CX k f fd ps sp:=⟨F.len,λA outer s H args us vs Q E d=>F.run A outer s H args us vs Q E (d.mono h)⟩
def FnOk.imp{P:Program}{w:World}{K:vE}{mg:Str->Option Value}{base:Heap}{CX:CXT}{k:Nat}{f:Addr}{fd:FuncData}{ps:List Str}{sp d:Sp}(F:FnOk P w K mg base CX k f fd ps sp)
 (h:∀vs H Q E,d vs H Q E->sp vs H Q E):FnOk P w K mg base CX k f fd ps d:=
 ⟨λvs H Q E q=>F.len vs H Q E (h _ _ _ _ q),λA outer s H args us vs Q E e g l m n=>F.run A outer s H args us vs Q E e g l m (h _ _ _ _ n)⟩
def Env0.make{P:Program}{w:World}{K:vE}{mg:Str->Option Value}{base:Heap}{A:Around}{outer:List Env}{s:Shared}{H:Hp}(e:Env0 P w K mg base A outer s H)(C:Addr)(d:List Value)(f:List (Str×Value)):
  Env0 P w K mg base (A.under (.builtin "type.__call__" ⟨.ref C::d,f⟩)) outer s H:=⟨by first|exact e.frames|(simpa[Around.under,Code.envs,Code.isFrame,pushEnvs] using e.frames),e.mod,e.bs,e.bsz,e.funs,e.frf,e.hok,e.bare⟩
section
variable{X:Cx}{pins:List (Addr×Obj)}{σ:St}{H:Hp}{s s':Shared}
def Inv.env0(I:Inv X pins σ H s):Env0 X.prog X.w X.K X.mg X.base X.A X.stack s H:=
 ⟨I.ok.frames,I.ok.mod,I.bs,Wc I.ok.bsz I.sz,I.stack,I.stkFree,I.hok,I.bare⟩
def Inv.after{Q:VK}{u:Value}(I:Inv X pins σ H s)(h:CE X.stack X.prog X.w H s Q u s'):EP X pins σ Q u s':=by
 obtain⟨v,f,os,bare,un,hok,r,q⟩:=h
 obtain⟨l,g,d,t,e⟩:=s'
 obtain rfl:e=s.os:=os;exact⟨v,f,I.call (h':=l) (g':=g) (d':=d) (t':=t) (ch:=[]) un hok bare (λb z=>absurd z vC),r,q⟩
end
def zpe(sp:Sp)(d:List V)(E:XK)(t:TA):TE:=λe H Q=>t e H λf g=>sp (f++d) g Q E
def tMake(C:Addr)(sp:Sp)(e:List V)(E:XK)(t:TA):TE:=λg H Q=>t g H λh f=>∀x d,f x=none->f d=none->d≠x ->
 sp (.ref x::(h++e)) (upd (upd f d (.own x)) x (.ins C d [])) (λv l=>v=.non/\Q (.ref x) l) E
def Binds(K:vE)(g:FuncData)(e:List Str)(f:List Value):Prop:=
 ∀(s:Shared) (d:List Value),K.In s.heap->(d++f).length=e.length->BindsTo s g ⟨d,[]⟩ (e.zip (d++f))
def Binds.all{K:vE}{f:FuncData}{e:List Str}(h:∀d:List Value,d.length=e.length->bindArgs f ⟨d,[]⟩=pure (e.zip d)):Binds K f e []:=λs d _ g=>by
 rw[Qm] at g |-;exact .of_eq (h d g)
def zou(g:CXT)(X:Cx)(E:XK):Prop:=∀(d:List (Addr×Obj)) (h:St) (H:Hp) (s:Shared) (e:Value) (f:Shared),Inv X d h H s->g X.stack H s E e f->X.xe e f
section
variable{X:Cx}{CX:CXT}{k:Nat}{f C:Addr}{fd:FuncData}{ps:List Str}{sp:Sp}{dvs:List V}{ds:List Value}{E:XK}{x m:Str}{p pos apos:Pos}{e o:Expr}{es:List Expr}{ta:TE}{t:TA}
def run_fn{d:List (Addr×Obj)}{n:St}{H:Hp}{s:Shared}{Q:VK}{g:List Value}{m:List V}(F:FnOk X.prog X.w X.K X.mg X.base CX k f fd ps sp)(p:Room k X.A)(q:Binds X.K fd ps ds)(t:Vals dvs ds)(v:zou CX X E)
 (I:Inv X d n H s)(r:Vals m g)(h:sp (m++dvs) H Q E):wpAny (model X.prog X.w) X.A (call (.ref f) g) (EP X d n Q) X.xe s:=by
 have o:Vals (m++dvs) (g++ds):=r.append t;have z:(g++ds).length=ps.length:=by rw[<-o.length];exact F.len _ _ _ _ h
 refine wpAny_call (Vw (F.run X.A X.stack s H ⟨g,[]⟩ (g++ds) (m++dvs) Q E p I.env0 (q s g I.kIn z) o h) λr B l=>?_);cases r with
 |error e=>exact v d n H s e B I l
 |ok C=>
  cases C with
  |ret u=>exact I.after l
  |next=>exact False.elim l
  |brk=>exact False.elim l
  |cont=>exact False.elim l
def zpt(F:FnOk X.prog X.w X.K X.mg X.base CX k f fd ps sp)(n:Room k X.A)(o:Gl X x)(u:X.mg x=some (.ref f))(v:PySem.W.keepIn X.K (.ref f)=true)(z:Binds X.K fd ps ds)(B:Vals dvs ds)(C:zou CX X E)
 (D:PA X (e::es) t)(g:(x == ("__debug__" : Str))=false:=by decide)(G:starEach (e::es) X.env=(false,eval e X.env)::starEach es X.env:=by rfl)(l:(backTo pos (starEach es X.env)).any (·.1)=false:=by rfl):
  PE X (.Call (.Name x p) (e::es) [] pos) (zpe sp dvs E t):=by
 intro d s J H Q I h;refine Q9 (zyt I o u ?_ g);refine Ga (h₀:=X.base) I.ok.mod.kin v (thn (D pos d s J H _ I h) λL M ⟨N,O,m,r,q⟩=>⟨m.kIn,?_⟩) G l;exact run_fn F n z B C m r q
structure Mk(K:vE)(C f:Addr):Prop where
 makes:PySem.W.makesIn K C=true
 init:PySem.W.findIn K (.ref C) "__init__" = some (some (.ref f))
 fn:PySem.W.isFn K (.ref f)=true
 kp:PySem.W.keepIn K (.ref C)=true
def ydb{d:List (Addr×Obj)}{o:St}{H:Hp}{s:Shared}{Q:VK}{l:List Value}{p:List V}(M:Mk X.K C f)(F:FnOk X.prog X.w X.K X.mg X.base CX k f fd ps sp)(z:Room (k+1) X.A)(B:Binds X.K fd ps ds)(D:Vals dvs ds)
 (G:zou CX X E)(I:Inv X d o H s)(r:Vals p l)
 (h:∀x m,H x=none->H m=none->m≠x->sp (.ref x::(p++dvs)) (upd (upd H m (.own x)) x (.ins C m [])) (λv J=>v=.non/\Q (.ref x) J) E):
  wpAny (model X.prog X.w) X.A (call (.ref C) l) (EP X d o Q) X.xe s:=by
 have q:=h (s.heap.objs.size+1) s.heap.objs.size (I.hok.fresh (Ju _)) (I.hok.fresh (Zl _)) (Yi (Wx _));have n:=Inv.made (C:=C) I;have t:Vals (V.ref (s.heap.objs.size+1)::(p++dvs)) (Value.ref (s.heap.objs.size+1)::(l++ds)):=.cons rfl (r.append D);have L:(Value.ref (s.heap.objs.size+1)::l++ds).length=ps.length:=by
  have e:=t.length;rw[F.len _ _ _ _ q] at e;exact e.symm
 refine wpAny_call (yeg (f:=f) I.kIn M.makes M.init (beq_iff_eq.mp M.fn) (Vw (F.run _ X.stack _ _ ⟨Value.ref (s.heap.objs.size+1)::l,[]⟩ (Value.ref (s.heap.objs.size+1)::(l++ds)) _ _ E (z.make C l [])
  (n.env0.make C l []) (B _ (Value.ref (s.heap.objs.size+1)::l) n.kIn L) t q) λr N g=>?_))
 cases r with
 |error e=>exact G d o _ _ e N n g
 |ok O=>
  cases O with
  |ret u=>
   obtain⟨v,P,R,S,ev,T⟩:=n.after g
   subst ev;exact⟨S,⟨V.ref (s.heap.objs.size+1),P,R,rfl,T⟩⟩
  |next=>exact False.elim g
  |brk=>exact False.elim g
  |cont=>exact False.elim g
def ylf(M:Mk X.K C f)(F:FnOk X.prog X.w X.K X.mg X.base CX k f fd ps sp)(n:Room (k+1) X.A)(o:Gl X x)(u:X.mg x=some (.ref C))(v:Binds X.K fd ps ds)(z:Vals dvs ds)(B:zou CX X E)
 (D:PA X (e::es) t)(g:(x == ("__debug__" : Str))=false:=by decide)(G:starEach (e::es) X.env=(false,eval e X.env)::starEach es X.env:=by rfl)(l:(backTo pos (starEach es X.env)).any (·.1)=false:=by rfl):
  PE X (.Call (.Name x p) (e::es) [] pos) (tMake C sp dvs E t):=by
 intro d s J H Q I h;refine Q9 (zyt I o u ?_ g);refine Ga (h₀:=X.base) I.ok.mod.kin M.kp (thn (D pos d s J H _ I h) λL N ⟨O,P,m,r,q⟩=>⟨m.kIn,?_⟩) G l;exact ydb M F n v z B m r q
end
section
variable{X:Cx}{CX:CXT}{k:Nat}{f C:Addr}{fd:FuncData}{ps ks:List Str}{sp:Sp}{E:XK}{x m:Str}{p pos apos kpos:Pos}{e o:Expr}{es:List Expr}{kws:List Keyword}{te ta:TE}{t tk:TA}{nm:Option Str}
variable{g:List Value->List Value->List Value}{gV:List V->List V->List V}
end
structure FnScope(N P:List Str)(sc:Scope):Prop where
 kind:sc.kind=.function
 co:sc.isCoroutine=false
 gen:sc.isGenerator=false
 nd:N.Nodup
 pre:N.take P.length=P
 par:∀x∈P,sc.names.lookup x=some .local\/sc.names.lookup x=some .cell
 nofree:∀y∈sc.names,y.2 ≠ .free
theorem zom{e:Str->Option NameKind}{x:Str}:∀{d:List (Str×Value)}{m:Str->Option Value},(∀v,(x,v)∉d)->bindL e d m x=m x
 |[],_,_=>rfl
 |(n,v)::r,m,h=>by
  unfold bindL;rw[zom λw f=>h w (Y0 _ f)];split
  ·have:x≠n:=by rintro rfl;exact h v Wu
   simp[this]
  ·rfl
theorem zoo{e:Str->Option NameKind}{x:Str}:∀{d:List (Str×Value)}{m:Str->Option Value},(∀v,(x,v)∉d)->bindC e d m x=m x
 |[],_,_=>rfl
 |(n,v)::r,m,h=>by
  unfold bindC;rw[zoo λw f=>h w (Y0 _ f)];split
  ·rfl
  ·have:x≠n:=by rintro rfl;exact h v Wu
   simp[this]
theorem zon{d:Str->Option NameKind}{x:Str}{v:Value}:∀{P:List Str}{e:List Value}{i:Nat}{m:Str->Option Value},P.Nodup->P[i]? = some x->e[i]? = some v->d x=some .local ->
  bindL d (P.zip e) m x=some v
 |[],_,_,_,_,h,_,_=>by simp at h
 |_::_,[],_,_,_,_,h,_=>by simp at h
 |p::P,w::e,0,m,l,f,g,n=>by
  simp at f g;subst f;subst g
  show bindL d ((p,w)::P.zip e) m p=_;unfold bindL;rw[zom λv o=>(W5.mp l).1 (Vk o).1,if_pos n];simp
 |p::P,w::e,i+1,m,l,f,g,n=>by
  show bindL d ((p,w)::P.zip e) m x=_;unfold bindL;exact zon (i:=i) (W5.mp l).2 (by simpa using f) (by simpa using g) n
theorem zop{d:Str->Option NameKind}{x:Str}{v:Value}:∀{P:List Str}{e:List Value}{i:Nat}{m:Str->Option Value},P.Nodup->P[i]? = some x->e[i]? = some v->d x≠some .local ->
  bindC d (P.zip e) m x=some v
 |[],_,_,_,_,h,_,_=>by simp at h
 |_::_,[],_,_,_,_,h,_=>by simp at h
 |p::P,w::e,0,m,l,f,g,n=>by
  simp at f g;subst f;subst g
  show bindC d ((p,w)::P.zip e) m p=_;unfold bindC;rw[zoo λv o=>(W5.mp l).1 (Vk o).1,if_neg n];simp
 |p::P,w::e,i+1,m,l,f,g,n=>by
  show bindC d ((p,w)::P.zip e) m x=_;unfold bindC;exact zop (i:=i) (W5.mp l).2 (by simpa using f) (by simpa using g) n
def start(N:List Str)(d:List V):St:=d.map some++List.replicate (N.length-d.length) none
def cxOf(l:CXT)(P:Program)(w:World)(K:vE)(mg:Str->Option Value)(base:Heap)(N:List Str)(d:Str)(scope:Scope)(f:Addr)(h:Value)(A:Around)(outer:List Env)(s:Shared)(H:Hp)(E:XK):Cx where
 prog:=P
 w:=w
 K:=K
 mg:=mg
 base:=base
 A:=A.deeper (envOfC d scope s.heap.objs.size f h)
 N:=N
 s₀:=s
 H₀:=H
 env:=envOfC d scope s.heap.objs.size f h
 outer:=outer
 stack:=envOfC d scope s.heap.objs.size f h::outer
 ex:=[]
 calm:=true
 fn:=λ_=>true
 pn:=[]
 xe:=λe m=>wpAny (model P w) (A.deeper (envOfC d scope s.heap.objs.size f h)) (leaving (envOfC d scope s.heap.objs.size f h) e) (λ_ g=>l outer H s E e g) (λn g=>l outer H s E n g) m
def ztf{sc:Scope}{n:Nat}{x:Str}(h:sc.names.lookup x=some .cell):∃c,(cellsFrom n sc.names []).lookup x=some c:=by
 have q:=Vx sc.names n [] (.inl h);exact Vo.mp q
def zyx{O:CXT}{P:Program}{w:World}{K:vE}{L:Str->Option Value}{l:Heap}{N o:List Str}{d:Str}{scope:Scope}{f:Addr}{G:Value}{A:Around}{outer:List Env}{s Q:Shared}{H:Hp}{E:XK}{M:List Value}{t:List V}
 (S:FnScope N o scope)(U:A.handled=none)(m:Env0 P w K L l A outer s H)(hl:t.length=o.length)(r:Vals t M)
 (x:InCallC s s.heap.objs.size (bindL (envOfC d scope s.heap.objs.size f G).kindOf (o.zip M) λ_=>none) (cellsFrom (s.heap.objs.size+1) scope.names []) (bindC (envOfC d scope s.heap.objs.size f G).kindOf (o.zip M) λ_=>none) Q):
  Inv (cxOf O P w K L l N d scope f G A outer s H E) [] (start N t) H Q:=by
 have X:o.length<=N.length:=by have:=congrArg List.length S.pre;rw[Ww] at this;omega
 obtain⟨I,tk,rfl,R⟩:=x.done
 have B:∀b:Addr,b∉(cxOf O P w K L l N d scope f G A outer s H E).ex:=λb z=>absurd (show b∈([]:List Addr) from z) vC
 refine⟨⟨m.mod,S.kind,rfl,rfl,Zl _,λy z c I g=>?_,λy C=>?_,λy c _ h=>?_,λ_=>U,Around.frames_deeper m.frames,.inr ⟨rfl,rfl⟩,λb z=>absurd z (B b),m.bs,m.bsz,λb _ _=>B b,λb z=>absurd z (B b),m.funs,m.frf⟩,
  rfl,m.bare,Un.kept R,⟨_,x.toInCall.ns,λi y v I g h3=>?_⟩,λy c h=>⟨_,x.cell y c h⟩,m.hok.fresh (Zl _),λy c h=>?_,λp D=>absurd (show p∈([]:List (Addr×Obj)) from D) vC,m.hok.kept R,?_⟩
 ·exact name_of_addr x.apart (Kj I) (Kj g)
 ·have C:scope.names.lookup y=some .cell\/scope.names.lookup y=some .free:=C;rcases C with C|C
  ·exact ztf C
  ·exact absurd rfl (S.nofree _ (Kj C))
 ·exact U6 (x.above y c (Kj h))
 ·have J:i<t.length:=by
   unfold start at g;by_cases J:i<t.length
   ·exact J
   ·rw[Yd (by simpa using J)] at g;rw[Wl] at g;split at g<;>cases g
  have Y:t[i]? = some v:=by
   unfold start at g;rw[Ya (by simpa using J),Zh] at g;cases e:t[i]? with
   |none=>rw[e] at g;cases g
   |some a=>rw[e] at g;cases g;rfl
  obtain⟨u,T,Z⟩:=r.get Y
  have D:o[i]? = some y:=by
   rw[<-S.pre,Jo vB];exact I
  have F:o.Nodup:=by rw[<-S.pre];exact S.nd.sublist (List.take_sublist _ _)
  refine⟨u,Z,?_⟩
  rcases S.par y (Yr D) with k|k
  ·exact .inl ⟨k,zon F D T k⟩
  ·obtain⟨c,e⟩:=ztf (n:=s.heap.objs.size+1) k
   refine .inr ⟨.inl k,c,e,?_⟩;have q:=x.cell y c e;rw[zop F D T (by show scope.names.lookup y≠_;rw[k];decide)] at q;exact q
 ·exact m.hok.fresh (U6 (x.above y c (Kj h)))
 ·unfold start;show _=N.length;rw[Z5,Zc,Y5];omega
def fn_of{R:CXT}{P:Program}{w:World}{K:vE}{T:Str->Option Value}{h:Heap}{k:Nat}{f:Addr}{name d:Str}{l:Arguments}{m:List Stmt}{scope:Scope}{dV kV G pm g ct oc:Value}{an od:Option Addr}
 {X:Array (Option Value)}{N U:List Str}{sp:Sp}(lk:K.lookup f=some ⟨oc,od,.func (PySem.W.fnOf name d l m scope dV kV G pm an g ct),X⟩)(Y:PySem.W.codeIn K g d=true)(S:FnScope N U scope)
 (len:∀p H Q E,sp p H Q E->p.length=U.length)
 (C:∀(A:Around) (outer:List Env) (s:Shared) (H:Hp) (p:List V) (Q:VK) (E:XK),Room k (A.deeper (envOfC d scope s.heap.objs.size f g))->sp p H Q E ->
   ∃t,PSs (cxOf R P w K T h N d scope f g A outer s H E) m t/\t {nx:=λ_ B=>Q .non B,rt:=Q} (start N p) H):
  FnOk P w K T h R (k+1) f (PySem.W.fnOf name d l m scope dV kV G pm an g ct) U sp:=by
 refine⟨len,λA outer s H args us p Q E Z L hb r M=>?_⟩
 have hl:=len _ _ _ _ M;have KX:K.In s.heap:=L.mod.kin.keeps λb o e=>(L.bs b o e).1
 have a0:s.heap.NoLimit:=L.mod.nolimit.keeps λb o e=>(L.bs b o e).1
 have D:∀y∈U.zip us,scope.names.lookup y.1=some .local\/(scope.names.lookup y.1=some .cell/\((cellsFrom (s.heap.objs.size+1) scope.names []).lookup y.1).isSome=true):=λ⟨n,v⟩ hy=>by
  rcases S.par n (Vk hy).1 with q|q
  ·exact .inl q
  ·exact .inr ⟨q,Vx _ _ _ (.inl q)⟩
 refine codeAny_call_function Z.depth (KX _ _ lk) rfl S.co S.gen rfl (PySem.W.codeRec_of KX Y) (hb _ _ _ _ ?_);refine wpAny_newFunctionEnv_cells S.kind D λa1 he s1 x=>?_;subst he;refine⟨a0.keeps x.toInCall.keep,codeAny_func ?_⟩
 obtain⟨t,ht,hq⟩:=C A outer s H p Q E (Z.deeper _) M
 have I:Inv (cxOf R P w K T h N d scope f g A outer s H E) [] (start N p) H s1:=zyx S Z.hd L hl r x;refine Uq (ht [] s1 (start N p) H _ I hq) (λfl s' F=>?_) λe s' F=>F
 have O:∀{z:St}{B:Hp}{v:V}{u:Value},Inv (cxOf R P w K T h N d scope f g A outer s H E) [] z B s'->RelV v u->Q v B->CE outer P w H s Q u s':=
  λ{z B v u} J rv q=>⟨v,B,J.os,J.bare,J.base,J.hok,rv,q⟩
 cases fl with
 |ret u=>
  obtain⟨v,z,B,J,rv,q⟩:=F
  exact O J rv q
 |next=>
  obtain⟨z,B,J,q⟩:=F
  exact O (v:=V.non) (u:=Value.none) J rfl q
 |brk=>
  obtain⟨_,_,_,q⟩:=F
  exact False.elim q
 |cont=>
  obtain⟨_,_,_,q⟩:=F
  exact False.elim q
end L2
namespace L2
open PySem PySem.Spec PyProof.Rows
section
variable{X:Cx}{x:Str}{p pos:Pos}{e:Expr}{es:List Expr}{t:TA}{id T:String}{r:List V->Hp->VK->Prop}
def tCB(r:List V->Hp->VK->Prop)(t:TA):TE:=λd H Q=>t d H λe f=>r e f Q
def ydp(m:zjx X (.builtin id) r)(n:Gl X x)(o:X.mg x=none)(q:bootBuiltins x=some (.builtin id))(u:PA X (e::es) t)(v:x ≠ "__name__" := by decide)(f:(x == ("__debug__" : Str))=false:=by decide)
 (w:starEach (e::es) X.env=(false,eval e X.env)::starEach es X.env:=by rfl)(g:(backTo pos (starEach es X.env)).any (·.1)=false:=by rfl):PE X (.Call (.Name x p) (e::es) [] pos) (tCB r t):=by
 intro d s l H Q I h;refine Q9 (zgk I n o q ?_ v f);exact PyProof.Rows.callWith_builtin1 (thn (u pos d s l H _ I h) λz A ⟨B,C,D,E,F⟩=>m d A l C B z Q D E F) w g
def zxv(m:zjx X (.type T) r)(n:Gl X x)(o:X.mg x=none)(q:bootBuiltins x=some (.type T))(u:PA X (e::es) t)(v:x ≠ "__name__" := by decide)(f:(x == ("__debug__" : Str))=false:=by decide)
 (w:starEach (e::es) X.env=(false,eval e X.env)::starEach es X.env:=by rfl)(g:(backTo pos (starEach es X.env)).any (·.1)=false:=by rfl):PE X (.Call (.Name x p) (e::es) [] pos) (tCB r t):=by
 intro d s l H Q I h;refine Q9 (zgk I n o q ?_ v f);exact Y8 (thn (u pos d s l H _ I h) λz A ⟨B,C,D,E,F⟩=>m d A l C B z Q D E F) w g
end
end L2
namespace HT
open PySem PyProof.Rows
section
open PySem.SeqAt
open PySem.AutoSeq1 (wpAny_loadPart')
open PySem.MeetsSeq PySem.MeetsSeq2 PySem.MeetsSeq3
end
section
variable{prog:Program}{w:World}{A:Around}{E:Value->Shared->Prop}{s:Shared}
def sIx(n d:Nat):Option Int->Nat
 |none=>d
 |some v=>if v<0 then(v+(n:Int)).toNat else min v.toNat n
def sIx_none(n d:Nat):sIx n d none=d:=rfl
def sIx_nat(n d k:Nat):sIx n d (some (k:Int))=min k n:=by
 show(if (k:Int)<0 then((k:Int)+(n:Int)).toNat else min (k:Int).toNat n)=min k n;rw[if_neg vB,Z9]
end
end HT
namespace L2
open PySem PySem.Spec PyProof.Rows
abbrev TO:=St->Hp->(Option Int->Hp->Prop)->Prop
def PO(X:Cx)(e:Option Expr)(t:TO):Prop:=
 ∀(d:List (Addr×Obj)) (s:Shared) (f:St) (H:Hp) (Q:Option Int->Hp->Prop),Inv X d f H s->t f H Q ->
  wpAny (model X.prog X.w) X.A (evalPart e X.env) (λu h=>∃o g,Inv X d f g h/\IsPart u o/\Q o g) X.xe s
def yjg:TO:=λ_ H Q=>Q none H
def tPart(t:TE):TO:=λd H Q=>t d H λx e=>∃i,x=.int i/\Q (some i) e
section
variable{X:Cx}{e:Expr}{te:TE}{lo hi:Option Expr}{tl th:TO}{pos p2:Pos}
def ylc:PO X none yjg:=by
 intro d s e H Q I h;rw[evalPart_none];exact Zs ⟨none,H,I,.none,h⟩
def ylb(h:PE X e te):PO X (some e) (tPart te):=by
 intro d s f H Q I g;rw[evalPart_some];refine thn (h d s f H _ I g) λu p ⟨x,l,m,n,o⟩=>?_;obtain⟨i,rfl,q⟩:=o
 obtain⟨t,rfl⟩:=n
 exact⟨some i,l,m,.int i t,q⟩
def SlR(X:Cx)(r:V->Option Int->Option Int->Hp->VK->Prop):Prop:=
 ∀(d:List (Addr×Obj)) (s:Shared) (e:St) (H:Hp) (x:V) (v f g:Value) (lo hi:Option Int) (h:Addr) (Q:VK),Inv X d e H s->RelV x v->s.heap.IsSliceOf h f g .none->IsPart f lo->IsPart g hi->r x lo hi H Q ->
  ∃T id,typeLookup (.type T) "__getitem__" = pure (some (.builtin id))/\s.TypeIs v T/\wpAny (model X.prog X.w) X.A (getItem v (.ref h)) (EP X d e Q) X.xe s
def tSl(r:V->Option Int->Option Int->Hp->VK->Prop)(te:TE)(tl th:TO):TE:=λd H Q=>te d H λx e=>tl d e λl f=>th d f λu H3=>r x l u H3 Q
def ydn{r:V->Option Int->Option Int->Hp->VK->Prop}(o:SlR X r)(p:PE X e te)(t:PO X lo tl)(z:PO X hi th):PE X (.Subscript e (.Slice lo hi none p2) pos) (tSl r te tl th):=by
 intro d s g H Q I h;refine Subscript_ (thn (p d s g H _ I h) λv B ⟨x,C,D,E,F⟩=>?_);refine wpAny_Slice (thn (t d B g C _ D F) λm G ⟨l,J,K,pl,L⟩=>thn (z d G g J _ K L) λn f ⟨u,H3,M,N,O⟩=>?_);rw[evalPart_none];refine Zs ?_;have P:Inv X d g H3 {f with heap:=f.heap.push {cls:=.type "slice",data:=.fields #[m,n,.none]} }:=M.kept (t':=f.toks) λb W q=>Ze _ q
 obtain⟨T,id,R,S,U⟩:=o d {f with heap:=f.heap.push {cls:=.type "slice",data:=.fields #[m,n,.none]} } g H3 x v m n l u f.heap.objs.size Q P E (Heap.IsSliceOf.new ..) pl N O
 show wpAny (model X.prog X.w) X.A (subscriptTail e (.Slice lo hi none p2) v (.ref f.heap.objs.size)) (EP X d g Q) X.xe {f with heap:=f.heap.push {cls:=.type "slice",data:=.fields #[m,n,.none]} };exact tail_any (ops:=[.ref f.heap.objs.size,v]) S R U (by with_unfolding_all rfl)
def cutV(d:List V)(lo hi:Option Int):List V:=(d.drop (HT.sIx d.length 0 lo)).take (HT.sIx d.length d.length hi-HT.sIx d.length 0 lo)
def zqn(d:List V)(lo hi:Option Int):(cutV d lo hi).length<=d.length:=by
 unfold cutV;rw[Ww,Ys];omega
end
end L2
namespace L2
open PySem PySem.Spec PyProof.Rows
def ixN(n:Nat)(i:Int):Option Nat:=if 0<=i then(if i<n then some i.toNat else none) else if -(n:Int)<=i then some (i+n).toNat else none
def atI{d:Type}(e:List d)(i:Int):Option d:=(ixN e.length i).bind λj=>e[j]?
def ixN_seq{n:Nat}{i:Int}{j:Nat}(h:ixN n i=some j):seqIndex? i n=some j/\j<n /\ -(n:Int)<=i/\i<n:=by
 unfold ixN at h;by_cases f:0<=i
 ·rw[if_pos f] at h;by_cases d:i<n
  ·rw[if_pos d] at h;have e:i.toNat=j:=Zw h;exact⟨by rw[seqIndex_of f d,e],by omega,by omega,d⟩
  ·rw[if_neg d] at h;cases h
 ·rw[if_neg f] at h;by_cases d : -(n:Int)<=i
  ·rw[if_pos d] at h;have e:(i+n).toNat=j:=Zw h;exact⟨by rw[Be vB d,e],by omega,d,by omega⟩
  ·rw[if_neg d] at h;cases h
def ybf{f:Type}{d:List f}{i:Int}{v:f}(h:atI d i=some v):∃j,seqIndex? i d.length=some j/\d[j]? = some v/\j<d.length /\ -(d.length:Int)<=i/\i<d.length:=by
 unfold atI at h;cases e:ixN d.length i with
 |none=>rw[e] at h;cases h
 |some j=>
  rw[e] at h;obtain⟨g,l,m,n⟩:=ixN_seq e
  exact⟨j,g,h,l,m,n⟩
def atI_last{f:Type}(d:List f)(v:f):atI (d++[v]) (-1)=some v:=by
 have g:(d++[v]).length=d.length+1:=by simp
 have e:ixN (d++[v]).length (-1)=some d.length:=by
  unfold ixN;rw[g,if_neg vA,if_pos vB];congr 1
  omega
 unfold atI;rw[e];show(d++[v])[d.length]? = some v;simp
def ybk(b:Expr):Prop:=∀o i,subscripted b false o i=operate [o,i] (getItem o i)
def IxR(X:Cx)(r:R2):Prop:=
 ∀(d slice:Expr) (pins:List (Addr×Obj)) (s:Shared) (e:St) (H:Hp) (x y:V) (v u:Value) (Q:VK),Inv X pins e H s->RelV x v->RelV y u->r x y H Q ->
  subscripted slice false v u=operate [v,u] (getItem v u)->wpAny (model X.prog X.w) X.A (subscriptTail d slice v u) (EP X pins e Q) X.xe s
def MtR(X:Cx)(id:String)(r:V->List V->Hp->VK->Prop):Prop:=
 ∀(d:List (Addr×Obj)) (s:Shared) (e:St) (H:Hp) (x:V) (f:List V) (v:Value) (g:List Value) (Q:VK),Inv X d e H s->RelV x v->Vals f g->r x f H Q ->
  wpAny (model X.prog X.w) X.A (call (.builtin id) (v::g)) (EP X d e Q) X.xe s
section
variable{X:Cx}{a b:Expr}{ta tb:TE}{pos:Pos}
def pe_ix{r:R2}(e:IxR X r)(f:PE X a ta)(g:PE X b tb)(l:ybk b):PE X (.Subscript a b pos) (tOp r ta tb):=by
 intro d s m H Q I h;exact Subscript_ (binT f g I h λv u n x y o p t w q=>e a b d n m o x y v u Q p t w q (l _ _))
def rIxL(K:vE):R2:=λx y H Q=>∃p d i v,x=.ref p/\y=.int i/\SqL K H p d/\atI d i=some v/\Q v H
def rIxT(K:vE):R2:=λx y H Q=>∃p d i v,x=.ref p/\y=.int i/\SqT K H p d/\atI d i=some v/\Q v H
def ymn:IxR X (rIxL X.K):=by
 intro g slice d s o H x y v u Q I D E h A;obtain⟨p,P,i,z,rfl,rfl,F,G,q⟩:=h
 cases D;obtain⟨t,rfl⟩:=E
 obtain⟨l,r,pl,R⟩:=I.list F
 obtain⟨j,f,J,S,L,M⟩:=ybf G
 obtain⟨w,B,m⟩:=r.get J
 have N:=r.length;have T:=zsj;have e:EP X d o Q w s:=⟨z,H,I,m,q⟩;by_cases C:0<=i
 ·have n:i.toNat=j:=by
   rw[seqIndex_of C M] at f;exact Zw f
  exact item_listR pl.isList C vB (by rw[n];simpa using B) e A
 ·have n:(i+(l.toArray.size:Int)).toNat=j:=by
   rw[Be vB L] at f;rw[Zt,<-N];exact Zw f
  exact G8 (x:=w) pl.isList.typeIs slot_list_getitem.lookup
   (wpAny_getItem_list_neg (Q:=λr O=>r=w/\EP X d o Q r O) pl.isList vB (by rw[Zt]<;>omega) vB (by rw[n];simpa using B) ⟨rfl,e⟩) A
def ix_tup:IxR X (rIxT X.K):=by
 intro e slice d s l H x y v u Q I m n h o;obtain⟨p,L,i,z,rfl,rfl,A,B,q⟩:=h
 cases m;obtain⟨t,rfl⟩:=n
 obtain⟨C,r,pl,M⟩:=I.tuple A
 obtain⟨j,D,E,N,O,P⟩:=ybf B
 obtain⟨w,F,f⟩:=r.get E
 have G:=r.length;have R:=zsj;have g:EP X d l Q w s:=⟨z,H,I,f,q⟩;exact G8 (x:=w) pl.typeIs slot_tuple_getitem.lookup
  (getItem_tuple (j:=j) (Q:=λr J=>r=w/\EP X d l Q r J) pl vB vB (by rw[Zt,<-G];exact D) (by simpa using F) ⟨rfl,g⟩) o
def zun(d:List Value)(n j:Nat)(u:Value):Obj.mapSeq (·.setIfInBounds j u) {cls:=.type "list",data:=.seq d.toArray n}={cls:=.type "list",data:=.seq (d.set j u).toArray n}:=by
 simp[Obj.mapSeq]
theorem Inv.lst{pins:List (Addr×Obj)}{σ:St}{H:Hp}{s:Shared}{p:Addr}{f:List V}(I:Inv X pins σ H s)(h:H p=some (.lst f)):
  ∃(d:List Value) (n:Nat),Vals f d/\s.heap.get? p=some {cls:=.type "list",data:=.seq d.toArray n}/\f.length<=sizeLine:=by
 obtain⟨z,d,n,r,e⟩:=I.hok p _ h
 exact⟨d,n,r,e,z⟩
def Inv.lstUpd{pins:List (Addr×Obj)}{σ:St}{H:Hp}{s:Shared}{p:Addr}{v l:List V}{g d:List Value}{n m:Nat}{f:Obj->Obj}(I:Inv X pins σ H s)(h:H p=some (.lst v))
 (w:s.heap.get? p=some {cls:=.type "list",data:=.seq g.toArray n})(o:f {cls:=.type "list",data:=.seq g.toArray n}={cls:=.type "list",data:=.seq d.toArray m})(r:Vals l d)(z:l.length<=sizeLine)(t:Nat):
  Inv X pins σ (upd H p (.lst l)) {s with heap:=s.heap.update p f,toks:=t}:=by
 have e:(s.heap.update p f).get? p=some {cls:=.type "list",data:=.seq d.toArray m}:=by
  rw[Ws f w (by rw[o]<;>rfl),o]
 refine I.write (x:=p) (e:=p) (by rw[h];trivial) (.inl rfl) (λb u A q=>(Yq _ _ (Wz A)).trans q) ⟨_,e⟩ ?_;exact⟨z,d,m,r,e⟩
def rSetL:V->V->V->Hp->(Hp->Prop)->Prop:=λo i v H Q=>∃p d k j,o=.ref p/\i=.int k/\H p=some (.lst d)/\ixN d.length k=some j/\Q (upd H p (.lst (d.set j v)))
def ycp:PSet X rSetL:=by
 intro d s D H o i v M N u Q I E F G h;obtain⟨p,J,k,j,rfl,rfl,w,K,q⟩:=h
 cases E;obtain⟨t,rfl⟩:=F
 obtain⟨e,n,r,g,L⟩:=I.lst w
 obtain⟨f,O,z,A⟩:=ixN_seq K
 have l:=r.length;have P:=zsj;have B:Inv X d D (upd H p (.lst (J.set j v))) {s with heap:=s.heap.update p (Obj.mapSeq (·.setIfInBounds j u))}:=
  I.lstUpd w g (zun e n j u) (r.set G j) (by rw[W6];exact L) s.toks
 by_cases C:0<=k
 ·have m:k.toNat=j:=by
   rw[seqIndex_of C A] at f;exact Zw f
  exact PySem.W.ki_setAt g C vB (by rw[Zt,<-l];exact A) (by rw[m];exact⟨_,B,q⟩)
 ·have m:(k+(e.toArray.size:Int)).toNat=j:=by
   rw[Be vB z] at f;rw[Zt,<-l];exact Zw f
  exact PySem.W.ki_setBack g vB (by rw[Zt,<-l];exact z) vB (by rw[m];exact⟨_,B,q⟩)
def zmv(d e:Option Int)(n:Nat):(sliceBounds d e none n).1=((HT.sIx n 0 d:Nat):Int)/\(sliceBounds d e none n).2.1=((HT.sIx n n e:Nat):Int)/\(sliceBounds d e none n).2.2=1:=by
 refine⟨?_,?_,rfl⟩
 ·cases d with
  |none=>simp[sliceBounds,HT.sIx]
  |some i=>
   simp only[sliceBounds,HT.sIx,G0,show(1:Int) > 0 by decide,if_true];by_cases h:i<0
   ·simp only[h,if_true]<;>omega
   ·simp only[h,if_false]<;>omega
 ·cases e with
  |none=>simp[sliceBounds,HT.sIx]
  |some i=>
   simp only[sliceBounds,HT.sIx,G0,show(1:Int) > 0 by decide,if_true];by_cases h:i<0
   ·simp only[h,if_true]<;>omega
   ·simp only[h,if_false]<;>omega
def zkx(d:List Value)(e f:Option Int):slicePick d.toArray e f none=((d.drop (HT.sIx d.length 0 e)).take (HT.sIx d.length d.length f-HT.sIx d.length 0 e)).toArray:=by
 obtain⟨g,h,l⟩:=zmv e f d.toArray.size
 unfold slicePick;rw[g,h,l];simp only[sliceRange_one,pick_run,Zt]<;>rfl
def rSlL(K:vE):V->Option Int->Option Int->Hp->VK->Prop:=λx e f H Q=>∃a d,x=.ref a/\SqL K H a d/\∀p,H p=none->Q (.ref p) (upd H p (.lst (cutV d e f)))
def yjn:SlR X (rSlL X.K):=by
 intro l s A H x v B C f g D Q I n p pl t h;obtain⟨a,d,rfl,u,q⟩:=h
 cases n;obtain⟨w,r,m,z⟩:=I.list u
 have e:=r.length;refine⟨"list",_,slot_list_getitem.lookup,m.isList.typeIs,?_⟩
 refine wpAny_getItem_list_slice m.isList p pl t .none vC ?_ (by rw[Zt]<;>omega);rw[zkx,<-e];refine⟨.ref s.heap.objs.size,_,I.laid (t':=s.toks) (o:=.lst (cutV d f g)) (λb E q=>Ze _ q) (Zl _) ?_,rfl,q _ (I.hok.fresh (Zl _))⟩
 exact⟨Wc (zqn d f g) z,_,0,(r.drop (HT.sIx d.length 0 f)).take (HT.sIx d.length d.length g-HT.sIx d.length 0 f),Z0 _ rfl⟩
def zgm:zjx X (.builtin "len") (λm H Q=>∃p e,m=[.ref p]/\(SqL X.K H p e\/SqT X.K H p e)/\Q (.int e.length) H):=by
 intro n s v H m w Q I r h;obtain⟨p,e,rfl,f,q⟩:=h
 obtain⟨u,rfl,o⟩:=zkp r
 cases o;have z:=zsj;rcases f with f|f
 ·obtain⟨g,l,pl,t⟩:=I.list f
  have d:=l.length;exact Calls.call_len_list pl.isList (by simp only[Zt]<;>omega) ⟨.int e.length,H,I.tok _,⟨s.toks+1,by rw[Zt,d]⟩,q⟩
 ·obtain⟨g,l,pl,t⟩:=I.tuple f
  have d:=l.length;exact len_tuple pl (by simp only[Zt]<;>omega) ⟨.int e.length,H,I.tok _,⟨s.toks+1,by rw[Zt,d]⟩,q⟩
def zmc:zjx X (.type "tuple") (λv H Q=>∃p g,v=[.ref p]/\((SqL X.K H p g/\∀l,H l=none->Q (.ref l) (upd H l (.tup g)))\/(SqT X.K H p g/\Q (.ref p) H))):=by
 intro d s z H v G Q I r h;obtain⟨p,g,rfl,h⟩:=h
 obtain⟨u,rfl,D⟩:=zkp r
 cases D;rcases h with⟨n,q⟩|⟨n,q⟩
 ·obtain⟨f,t,pl,A⟩:=I.list n
  have B:=t.length;refine call_tuple_list pl.isList (λm E=>?_) (by simp only[Zt]<;>omega);have C:Inv X d z H {s with heap:=m}:=I.kept (t':=s.toks) E;have F:Inv X d z (upd H m.objs.size (.tup g)) {s with heap:=m.push {cls:=.type "tuple",data:=.seq f.toArray} }:=
   C.laid (t':=s.toks) (λb o e=>Ze _ e) (Zl _) (show ObjOk X.prog X.w _ _ _ (.tup g) from⟨A,f,t,IsTup.new _ _⟩)
  exact⟨.ref m.objs.size,_,F,rfl,q _ (C.hok.fresh (Zl _))⟩
 ·obtain⟨f,t,pl,A⟩:=I.tuple n
  exact call_tuple_same pl ⟨.ref p,H,I,rfl,q⟩
def tyV(K:vE)(T:String)(x:V)(H:Hp):Prop:=match x with
 |.str _=>T = "str"
 |.int _=>T = "int"
 |.ref p=>(T = "list" /\ ∃e,SqL K H p e)\/(T = "tuple" /\ ∃o,K.lookup p=some o/\o.cls=.type "tuple" /\ o.dict=none) \/
   (T = "dict" /\ ((∃d,H p=some (.dK d))\/∃d,H p=some (.dT d)))\/(T = "set" /\ ∃S n,H p=some (.set S n))
 |_=>False
def tyV_is{f:List (Addr×Obj)}{u:St}{H:Hp}{s:Shared}{T:String}{x:V}{v:Value}(I:Inv X f u H s)(r:RelV x v)(g:tyV X.K T x H):
  s.TypeIs v T/\∀a,v=.ref a->∃q,s.heap.get? a=some q/\q.dict=none:=by
 cases x with
 |str z=>
  obtain⟨t,rfl⟩:=r
  cases(show T = "str" from g)
  exact⟨typeIs_str s z t,λ_ e=>nomatch e⟩
 |int i=>
  obtain⟨t,rfl⟩:=r
  cases(show T = "int" from g)
  exact⟨typeIs_int s i t,λ_ e=>nomatch e⟩
 |ref p=>
  cases r;rcases g with⟨rfl,C,w⟩|⟨rfl,o,d,A,h⟩|⟨rfl,d⟩|⟨rfl,S,n,d⟩
  ·obtain⟨B,_,pl,_⟩:=I.list w
   refine⟨pl.isList.typeIs,λa e=>?_⟩
   cases e;obtain⟨o,n,e,c,h,_⟩:=pl
   exact⟨o,e,h⟩
  ·refine⟨⟨o,I.kIn p o d,A⟩,λa e=>?_⟩
   cases e;exact⟨o,I.kIn _ o d,h⟩
  ·have z:∃o,s.heap.get? p=some o/\o.ExactDict:=by
    rcases d with⟨l,d⟩|⟨l,d⟩
    ·obtain⟨_,_,_,_,o,_,_,e,ex,_⟩:=I.hok p _ d
     exact⟨o,e,ex⟩
    ·obtain⟨_,_,_,_,o,_,_,e,ex,_⟩:=I.hok p _ d
     exact⟨o,e,ex⟩
   obtain⟨o,e,ex⟩:=z
   refine⟨⟨o,e,ex.1⟩,λa m=>?_⟩
   cases m;exact⟨o,e,ex.2.1⟩
  ·obtain⟨o,_,_,_,e,ex,_⟩:=I.hok p _ d
   refine⟨⟨o,e,ex.1⟩,λa m=>?_⟩
   cases m;exact⟨o,e,ex.2.1⟩
 |_=>exact False.elim g
def tBM(K:vE)(T:String)(r:V->List V->Hp->VK->Prop)(f:TE)(t:TA):TE:=λd H Q=>f d H λx e=>tyV K T x e/\t d e λg h=>r x g h Q
variable{o e:Expr}{es:List Expr}{to:TE}{t:TA}{name:Str}{apos cpos:Pos}{T id:String}{r:V->List V->Hp->VK->Prop}
def ydq(z:PlainAttrs T)(slot:Slot T name id)(n:typeOf (.builtin id)=pure (.type "method_descriptor"))(A:MtR X id r)(B:PE X o to)(C:PA X (e::es) t)
 (g:attributeBase o name X.env (eval o X.env)=eval o X.env:=by rfl)
 (m:((backTo cpos (starEach (e::es) X.env)).all (λx=>!x.1) && (backToKw cpos (keywordEach [] X.env)).all (λx=>x.1.isSome)
   && decide ((e::es).length+([]:List Keyword).length+(if ([]:List Keyword).isEmpty then 0 else 1)<30))=true:=by rfl)
 (l:(apos.endLine == cpos.line)=true:=by rfl)(D:starEach (e::es) X.env=(false,eval e X.env)::starEach es X.env:=by rfl)(f:(backTo cpos (starEach es X.env)).any (·.1)=false:=by rfl):
  PE X (.Call (.Attribute o name apos) (e::es) [] cpos) (tBM X.K T r to t):=by
 intro d s p H Q I h;refine wpAny_Call_method_late g m l rfl (thn (B d s p H _ I h) λv E ⟨x,F,q,u,ty,G⟩=>?_);obtain⟨J,L⟩:=tyV_is q u ty
 refine⟨T,id,z,slot,n,J,L,?_⟩
 have w:=C cpos d E p F _ q G;rw[D] at w |-;refine Calls.callWith_builtin (by show(false || (backTo cpos (starEach es X.env)).any (·.1))=false;rw[f]<;>rfl) (Calls.evalArgs_plain ?_);exact thn w λM N ⟨O,P,R,S,U⟩=>A d N p P x O v M Q R u S U
end
end L2
namespace L2
open PySem PySem.Spec PyProof.Rows
def MtM(X:Cx)(id:String)(r:V->List V->Hp->VK->Prop):Prop:=
 ∀(d:List (Addr×Obj)) (s:Shared) (e:St) (H:Hp) (x:V) (f:List V) (v:Value) (g:List Value) (Q:VK),Inv X d e H s->RelV x v->Vals f g->r x f H Q ->
  wpAny (model X.prog X.w) X.A (call (.builtin id) (v::g)) (EP X d e Q) X.xe s
def Vals.one:∀{x:V}{d:List Value},Vals [x] d->∃u,d=[u]/\RelV x u:=λh=>by
 cases h with
 |cons r t=>cases t;exact⟨_,rfl,r⟩
theorem Vals.eraseIdx:∀{d:List V}{e:List Value}(i:Nat),Vals d e->Vals (d.eraseIdx i) (e.eraseIdx i)
 |_,_,_,.nil=>.nil
 |_,_,0,.cons _ t=>t
 |_,_,i+1,.cons r t=>.cons r (Vals.eraseIdx i t)
theorem znw{d:Type}:∀(l:List d) (i:Nat),(l.eraseIdx i).length<=l.length
 |[],_=>Zl _
 |_::_,0=>Ju _
 |_::r,i+1=>Nat.succ_le_succ (znw r i)
section
variable{X:Cx}{pins:List (Addr×Obj)}{σ:St}{H:Hp}{s:Shared}{l b:Addr}{xs ys zs:List V}
def Inv.lset{d its':List Value}{n:Nat}{f:Array Value->Array Value}{g:Nat}(I:Inv X pins σ H s)(h:H l=some (.lst xs))
 (e:s.heap.get? l=some {cls:=.type "list",data:=.seq d.toArray n})(m:f d.toArray=its'.toArray)(o:Vals ys its')(p:ys.length<=sizeLine):
  Inv X pins σ (upd H l (.lst ys)) {s with heap:=s.heap.update l (Obj.mapSeq f),toks:=g}:=by
 have q:=PySem.IsL.update e f;rw[m] at q;refine I.write (x:=l) (e:=l) (by rw[h];exact trivial) (.inl rfl) (λv u r t=>(Yq s.heap (Obj.mapSeq f) (Wz r)).trans t) ⟨_,q⟩ ?_;exact⟨p,its',_,o,q⟩
def Inv.lnew{its:List Value}{t':Nat}(I:Inv X pins σ H s)(d:Vals ys its)(e:ys.length<=sizeLine):
  Inv X pins σ (upd H s.heap.objs.size (.lst ys)) {s with heap:=s.heap.push {cls:=.type "list",data:=.seq its.toArray},toks:=t'}:=
 I.laid (λ_ _ q=>Ze _ q) (Zl _) ⟨e,its,0,d,Z0 _ rfl⟩
theorem Inv.fresh(I:Inv X pins σ H s):H s.heap.objs.size=none:=I.hok.fresh (Zl _)
def Inv.lstM(I:Inv X pins σ H s)(f:H l=some (.lst xs)):xs.length<=sizeLine/\∃(d:List Value) (n:Nat),Vals xs d/\xs.length=d.length/\s.heap.get? l=some {cls:=.type "list",data:=.seq d.toArray n}:=by
 obtain⟨z,d,n,r,e⟩:=I.hok l _ f
 exact⟨z,d,n,r,r.length,e⟩
end
section
variable{X:Cx}
def zxf:V->List V->Hp->VK->Prop:=λx e H Q=>∃l d y,x=.ref l/\e=[y]/\H l=some (.lst d)/\d.length<sizeLine/\Q .non (upd H l (.lst (d++[y])))
def zin:MtM X "list.append" zxf:=by
 intro f s t H x w v A Q I m o h;obtain⟨l,B,y,rfl,rfl,g,C,q⟩:=h
 cases m;obtain⟨u,rfl,p⟩:=o.one
 obtain⟨z,d,n,r,D,e⟩:=I.lstM g
 refine call_meets F.slot_list_append ⟨_,e,rfl⟩ F.entry_list_append (F.args_list_append_2 _ _) (PySem.list_append l d.toArray n u (by rw[Zt];omega)) ⟨e,?_⟩;refine⟨.non,_,I.lset (its':=d++[u]) g e vC (r.append #v[p]) ?_,rfl,q⟩
 rw[Z5,J0];omega
def rPopAt:V->List V->Hp->VK->Prop:=λx e H Q=>∃l d i k y,x=.ref l/\e=[.int i]/\H l=some (.lst d) /\ -(2^63)<=i/\i<2^63/\seqIndex? i d.length=some k/\d[k]? = some y/\Q y (upd H l (.lst (d.eraseIdx k)))
def yeb:MtM X "list.pop" rPopAt:=by
 intro g s L H x M v N Q I o p h;obtain⟨l,A,i,k,y,rfl,rfl,m,B,C,D,E,q⟩:=h
 cases o;obtain⟨u,rfl,G⟩:=p.one
 obtain⟨t,rfl⟩:=G
 obtain⟨z,d,n,r,J,e⟩:=I.lstM m
 obtain⟨w,K,f⟩:=r.get E
 refine call_meets F.slot_list_pop ⟨_,e,rfl⟩ F.entry_list_pop (F.args_list_pop_2 _ _)
  (MeetsSeq.list_pop_at l d.toArray n i t k w (fitsIndex_both B C) (by rw[Zt,<-J];exact D) (by rw[<-Array.getElem?_toList];exact K) (by rw[Zt];omega)) ⟨e,?_⟩
 refine⟨y,_,I.lset (its':=d.eraseIdx k) m e ?_ (r.eraseIdx k) ?_,f,q⟩
 ·show d.toArray.eraseIdxIfInBounds k=(d.eraseIdx k).toArray;rw[List.eraseIdxIfInBounds_toArray]
 ·have:=znw A k
  omega
end
section
variable{prog:Program}{w:World}{A:Around}{E:Value->Shared->Prop}{s:Shared}
end
section
variable{X:Cx}
end
end L2
namespace Att
open PySem PySem.W PySem.Calls PyProof.Rows
def zix{P:Params}{h:Heap}:∀(d:List Int) (e:List Value),WellAll P h e (d.map WData.int)->IntsAre e d:=by
 intro d;induction d with
 |nil=>
  intro e w;rw[Wh] at w;cases w;exact .nil
 |cons n d f=>
  intro e w;rw[Zx] at w;cases w with
  |cons a b=>
   cases a;exact .cons _ _ (f _ b)
def zwt{l:OpenLaw}{n:Nat}(z:l.most=some n){P:Params}{h:Heap}{args:List WData}{f:List Value}
 (g:l.row.toRowW.claim.pre args=true)(t:WellAll P h f args):
  ∃a v e,f=[Value.ref a]/\args=[WData.list (e.map WData.int)]/\h.get? a=some {cls:=.type "list",data:=.seq v.toArray}/\IntsAre v e/\e.length<=n:=by
 have u:WShape.hasAll [] args [.list .int]=true:=(pre_splitW g).1;have w:l.pre.holds [] {args:=args}=true:=(pre_splitW g).2;obtain⟨d,r,rfl,A,B⟩:=hasAllW_cons u
 obtain rfl:=hasAllW_nil B;obtain⟨H,rfl,C⟩:=hasW_list A
 obtain⟨e,rfl⟩:=items_int C
 have m:e.length<=n:=by
  unfold OpenLaw.pre at w;have p:(WTm.not (.lt (.lit (.int (n:Int))) (.len (.arg 0)))).holds [] {args:=[.list (e.map .int)]}=true:=by
   have p:=(holds_andW w).1;rw[z] at p;exact p
  have s:=condW_of p (w_not (w_lt w_lit (w_len_list (w_arg rfl))));rw[Zc] at s;refine Nat.le_of_not_lt λq=>?_;have D:(n:Int)<((e.length:Nat):Int):=by omega
  first
   |(rw[decide_eq_true D] at s;exact absurd s vA)
   |(simp at s;omega)
 cases t with
 |cons E F=>
  cases F;cases E with
  |list G o=>exact⟨_,_,e,rfl,rfl,G,zix e _ o,m⟩
def zxn(l:OpenLaw)(args:List WData):l.row.toRowW.claim.post args (.bool true) args=true:=
 postW_of (r:=l.row.toRowW) (X:=(true == true))
  (show WShape.has [] (.bool true) .bool=true by first|rfl|decide|simp[WShape.has,WShape.arms,WShape.armsAll])
  (show(WTm.eq .res (.lit (.bool true))).value [] {args:=args,res:=some (.bool true),after:=args}=some (.bool (true == true)) from w_eq_bool (w_res rfl) w_lit) rfl
def attach_call{l:OpenLaw}{n:Nat}{q:Program}{g:List Str}{J:(Str->Option Value)->Heap->Prop}{K:World->Heap->Prop}{d:DefRec}
 (N:l.most=some n)(C:d.params.defaults=[])
 (p:∀(w:World) (s₀ e:Shared) (v D:Str->Option Value) (s:Addr) (o:Obj) (E z h:Value) (a:Addr) (m:List Value) (A:List Int),
   Ground q g [] J w s₀ v D e.heap->K w e.heap ->
   e.heap.get? s=some o->o.data=.func (docDef d.name d.params d.body d.scope E z h)->e.heap.CodeRec z d.name->v d.name=some (.ref s) ->
   e.heap.get? a=some {cls:=.type "list",data:=.seq m.toArray}->IntsAre m A->A.length<=n->e.gens = #[] ->
   codeAny (model l.prog w) callerA (.call (.ref s) ⟨[.ref a],[]⟩) (λr B=>r=.ok (.ret (.bool true))/\OldK e.heap B.heap/\B.os=e.os/\AllBare B.gens) e):
  WalkO q g J K l.row.toRowW d [] (λf m=>PySem.call f m):=by
 intro w s₀ e v D G Y s o E z h O kV P Q F hD H R args L as t M S I T;obtain rfl:O=.none:=Dflts.none hD C;obtain rfl:kV=.none:=Dflts.noKw hD;obtain⟨a,m,A,rfl,rfl,u,hints,hlen⟩:=zwt N t I
 refine enter_call (Vw (p w s₀ e v D s o E z h a m A G Y P (fd_plain Q) F H u hints hlen R) λr B U=>?_);obtain⟨rfl,V,W,X⟩:=U
 exact⟨.inl ⟨.bool true,.bool true,[],rfl,λ_=>rfl,.bool true,zxn l _,λ_=>⟨List.Pairwise.nil,λ_ Z=>(nomatch Z)⟩⟩,V,W,X⟩
section
variable{prog:Program}{w:World}{A:Around}{E:Value->Shared->Prop}{s:Shared}{K:Frag}
end
end Att
namespace L2
open PySem PySem.Spec PyProof.Rows
theorem zmq:∀{d:List Value}{e:List Int},IntsAre d e->Vals (e.map V.int) d
 |_,_,.nil=>.nil
 |_,_,.cons n t h=>.cons ⟨t,rfl⟩ (zmq h)
def Only(H:Hp):Prop:=∀b,H b=none\/∃o d,H b=some (.frz o (.lst d))
def yer{P:Program}{w:World}{K:vE}{E U:Str->Option Value}{CX:CXT}{k:Nat}{X a:Addr}{fd:FuncData}{x:Str}{sp:Sp}{f:Shared}{C:List Value}{G:List Int}
 (KX:K.In f.heap)(I:f.heap.Ns mainGlobals E)(l:f.heap.Ns builtinsNs U)(Y:∀x:Str,x ≠ "__name__" -> U x=bootBuiltins x)(J:f.heap.NoLimit)(hg:f.gens = #[])
 (T:f.heap.get? a=some {cls:=.type "list",data:=.seq C.toArray})(hi:IntsAre C G)(hl:G.length<=sizeLine)(hr:Room k callerA)
 (F:∀p:Heap,K.In p->p.Ns mainGlobals E->FnOk P w K E p CX k X fd [x] sp)(D:∀(s:Shared) (u:Value),BindsTo s fd ⟨[u],[]⟩ [(x,u)])
 (Z:∀H:Hp,Only H->SqL K H a (G.map V.int)->sp [.ref a] H (λv _=>v=.bl true) λ_ _ _=>False)
 (a0:∀H e t,CX [] H f (λ_ _ _=>False) e t->False):
  codeAny (model P w) callerA (.call (.ref X) ⟨[.ref a],[]⟩) (λr t=>r=.ok (.ret (.bool true))/\OldK f.heap t.heap/\t.os=f.os/\AllBare t.gens) f:=by
 have rv:=zmq hi;have L:=hi.length;have B:∀H:Hp,Only H->SqL K H a (G.map V.int)->HOk P w H f.heap->(∀b,H b≠none->b=a)->(H a≠none->K.lookup a=none) ->
   codeAny (model P w) callerA (.call (.ref X) ⟨[.ref a],[]⟩) (λr t=>r=.ok (.ret (.bool true))/\OldK f.heap t.heap/\t.os=f.os/\AllBare t.gens) f:=by
  intro H hO hS M hA hK;have g:∀{b:Addr}{o:Obj},f.heap.get? b=some o->H b=none->(hidT f.heap H).get? b=some o:=λe n=>yev e n
  have a1:∀{b:Addr}{o:Obj}{N:Array DictEntry}{O:Nat},f.heap.get? b=some o->o.data=.dict N O->H b=none:=λ{b o N O} e d=>by
   cases q:H b with
   |none=>rfl
   |some u=>
    have e':b=a:=hA b (by rw[q];simp);subst e';rw[T] at e;cases e;have d':Data.seq C.toArray _=Data.dict N O:=d;cases d'
  have A:∀{b:Addr}{m:Str->Option Value},f.heap.Ns b m->(hidT f.heap H).Ns b m:=λ{b m} ⟨o,N,O,e,d,r⟩=>⟨o,N,O,g e (a1 e d),d,r⟩
  have Q:K.In (hidT f.heap H):=λb o e=>g (KX b o e) (by
   cases q:H b with
   |none=>rfl
   |some u=>
    have e':b=a:=hA b (by rw[q];simp);subst e';rw[hK (by rw[q];simp)] at e;cases e)
  have hM:Mod K E (hidT f.heap H):=⟨Q,A I,⟨U,A l,Y⟩,let ⟨mc,h1,h2⟩:=J;⟨mc,A h1,h2⟩⟩;have e0:Env0 P w K E (hidT f.heap H) callerA [] f H:=⟨rfl,hM,λb o e=>ylp e,Gf (zzd _ _),trivial,λb l=>absurd (show b∈([]:List Addr) from l) vC,M,.of_eq hg⟩;refine Vw ((F _ Q (A I)).run callerA [] f H ⟨[.ref a],[]⟩ [.ref a] [.ref a] _ _ hr e0 (D f (.ref a)) #v[rfl] (Z H hO hS)) λr t h=>?_;cases r with
  |error e=>exact(a0 H e t h).elim
  |ok fl=>
   cases fl with
   |next=>exact False.elim h
   |brk=>exact False.elim h
   |cont=>exact False.elim h
   |ret u=>
    obtain⟨v,H',os,bare,un,R,r',q⟩:=h
    have q':v=.bl true:=q;subst q';obtain rfl:u=Value.bool true:=r';refine⟨rfl,OldK.of_keep λb o e=>?_,os,bare⟩
    cases q:H b with
    |none=>exact un.keep b o e q (by intro z;exact absurd (show b∈([]:List Addr) from z) vC) vC
    |some u=>
     rcases hO b with z|⟨ob,xs,z⟩
     ·rw[q] at z;cases z
     ·have z2:=un.frzs b ob _ z;obtain⟨e1,_⟩:=M b _ z
      obtain⟨e2,_⟩:=R b _ z2
      rw[e] at e1;cases e1;exact e2
 cases hk:K.lookup a with
 |some o=>
  have e:=KX a o hk;rw[T] at e;cases e;refine B (λ_=>none) (λ_=>.inl rfl) (.inr ⟨_,C.toArray,_,hk,rfl,rfl,rfl,by rw[Zt,L];exact hl,by simpa using rv⟩) (λb u z=>by have S:(none:Option HO)=some u:=z;cases S) (λb z=>absurd rfl z) λz=>absurd rfl z
 |none=>
  refine B (λb=>if b=a then some (.frz {cls:=.type "list",data:=.seq C.toArray} (.lst (G.map V.int))) else none) (λb=>?_) (.inl (.inr ⟨{cls:=.type "list",data:=.seq C.toArray},if_pos rfl⟩)) (λb u z=>?_) (λb z=>?_) λ_=>hk
  ·by_cases l:b=a
   ·exact .inr ⟨_,_,if_pos l⟩
   ·exact .inl (if_neg l)
  ·by_cases l:b=a
   ·have S:=(if_pos l).symm.trans z;cases S;subst l;exact⟨T,by rw[Zc];exact hl,C,_,rv,T⟩
   ·have S:=(if_neg l).symm.trans z;cases S
  ·by_cases l:b=a
   ·exact l
   ·exact absurd (if_neg l) z
end L2
namespace L2
open PySem PySem.Spec PyProof.Rows
def walk_of{l:PySem.W.OpenLaw}{n k:Nat}{q:Program}{r:List Str}{U:(Str->Option Value)->Heap->Prop}{P:World->Heap->Prop}{d:DefRec}{K:Params->vE}{CX:World->CXT}{sp:World->Sp}{x:Str}
 (X:l.most=some n)(E:n<=sizeLine)(I:d.params.defaults=[])(Z:Room k callerA)
 (hY:∀(w:World) (h:Heap),P w h->(K w.params).In h)
 (F:∀(w:World) (z:Str->Option Value) (C:Addr) (h:Heap),(K w.params).In h->h.Ns mainGlobals z->z d.name=some (.ref C) ->
   ∃J:FuncData,(∀(s:Shared) (u:Value),BindsTo s J ⟨[u],[]⟩ [(x,u)]) /\
    ∀m:Heap,(K w.params).In m->m.Ns mainGlobals z->FnOk l.prog w (K w.params) z m (CX w) k C J [x] (sp w))
 (L:∀(w:World) (H:Hp) (a:Addr) (D:List Int),D.length<=n->Only H->SqL (K w.params) H a (D.map V.int)->sp w [.ref a] H (λv _=>v=.bl true) λ_ _ _=>False)
 (M:∀(w:World) (H:Hp) (s:Shared) (e:Value) (N:Shared),CX w [] H s (λ_ _ _=>False) e N->False):
  PySem.W.WalkO q r U P l.row.toRowW d [] (λf Q=>PySem.call f Q):=by
 refine Att.attach_call X I λw R A z mb C o pm cd a0 a Q D G Y ho hd a1 O B t p hg=>?_;have S:=hY w _ Y;obtain⟨J,hb,hF⟩:=F w z C _ S G.T.g O
 exact yer S G.T.g G.T.b G.T.builtins G.T.nolimit hg B t (Wc p E) Z hF hb (λH hO hS=>L w H a D p hO hS) λH e N=>M w H A e N
end L2
namespace L2
open PySem PySem.Spec PyProof.Rows
def zfv(s:Stmt)(j:Nat):Stmt:=match s with
 |.ClassDef _ _ _ body _ _ _ _ _ _ _=>body.getD j (.Pass ⟨0,0,0,0⟩)
 |_=>.Pass ⟨0,0,0,0⟩
def zbj(s:Stmt):Arguments:=match s with
 |.FunctionDef _ a _ _ _ _ _ _ _ _=>a
 |_=>{posonlyargs:=[],args:=[],vararg:=none,kwonlyargs:=[],kw_defaults:=[],kwarg:=none,defaults:=[]}
def Bq(s:Stmt):List Stmt:=match s with
 |.FunctionDef _ _ b _ _ _ _ _ _ _=>b
 |_=>[]
def Bn(s:Stmt):Scope:=match s with
 |.FunctionDef _ _ _ _ _ _ sc _ _ _=>sc
 |_=>{kind:=.function,names:=[],isGenerator:=false,isCoroutine:=false}
abbrev CX0:CXT:=λ_ _ _ _ _ _=>False
abbrev E0:XK:=λ_ _ _=>False
def ydr{X:Cx}:zou CX0 X E0:=λ_ _ _ _ _ _ _ h=>h.elim
structure Fun(K:vE)(x qual:Str)(st:Stmt)(f:Addr)(fd:FuncData):Prop where
 ex:∃(oc:Value) (od:Option Addr) (kV doc pm:Value) (an:Option Addr) (cdv ct:Value) (osl:Array (Option Value)),
  fd=PySem.W.fnOf x qual (zbj st) (Bq st) (Bn st) .none kV doc pm an cdv ct/\K.lookup f=some ⟨oc,od,.func fd,osl⟩/\PySem.W.codeIn K cdv qual=true
 kp:PySem.W.keepIn K (.ref f)=true
section
variable{P:Program}{w:World}{K:vE}{mg:Str->Option Value}{base:Heap}
def Fun.ok{x qual:Str}{st:Stmt}{f:Addr}{fd:FuncData}{N g:List Str}{k:Nat}{sp:Sp}(F:Fun K x qual st f fd)(S:FnScope N g (Bn st))(len:∀d H Q E,sp d H Q E->d.length=g.length)
 (e:∀(cdv:Value) (A:Around) (outer:List Env) (s:Shared) (H:Hp) (d:List V) (Q:VK) (E:XK),Room k (A.deeper (envOfC qual (Bn st) s.heap.objs.size f cdv))->sp d H Q E ->
   ∃t,PSs (cxOf CX0 P w K mg base N qual (Bn st) f cdv A outer s H E).nox (Bq st) t/\t {nx:=λ_ n=>Q .non n,rt:=Q} (start N d) H):FnOk P w K mg base CX0 (k+1) f fd g sp:=by
 obtain⟨oc,od,kV,doc,pm,an,cdv,ct,osl,rfl,lk,l⟩:=F.ex
 refine fn_of lk l S len λA outer s H d Q E o m=>?_;obtain⟨t,h,q⟩:=e cdv A outer s H d Q E o m
 exact⟨t,h.nox,q⟩
def Fun.binds{x qual:Str}{st:Stmt}{f:Addr}{fd:FuncData}{d:List Str}(F:Fun K x qual st f fd)
 (h:∀(kV doc pm:Value) (an:Option Addr) (cdv ct:Value) (e:List Value),e.length=d.length->bindArgs (PySem.W.fnOf x qual (zbj st) (Bq st) (Bn st) .none kV doc pm an cdv ct) ⟨e,[]⟩=pure (d.zip e)):Binds K fd d []:=by
 obtain⟨oc,od,kV,doc,pm,an,cdv,ct,osl,rfl,lk,g⟩:=F.ex
 exact .all (h kV doc pm an cdv ct)
def zsr{x d:Str}{st:Stmt}{f:Addr}{o:Value}{p m:Option Addr}{h:Array (Option Value)}{kV g n e ct:Value}(l:K.lookup f=some ⟨o,p,.func (PySem.W.fnOf x d (zbj st) (Bq st) (Bn st) .none kV g n m e ct),h⟩)
 (c:PySem.W.codeIn K e d=true)(k:PySem.W.keepIn K (.ref f)=true):Fun K x d st f (PySem.W.fnOf x d (zbj st) (Bq st) (Bn st) .none kV g n m e ct):=⟨⟨o,p,kV,g,n,m,e,ct,h,rfl,l,c⟩,k⟩
end
def zwo{n:Nat}(h:n<=1000):n<sizeLine:=Yk h vA
section
variable{X:Cx}
end
def iteF{A B:Prop}(h:B):if false=true then A else B:=by
 rw[if_neg Zz];exact h
def iteT{A B:Prop}(h:A):if true=true then A else B:=by
 rw[if_pos rfl];exact h
def Same(H d:Hp):Prop:=∀b o,H b=some o->d b=some o
def Same.refl(H:Hp):Same H H:=λ_ _ h=>h
def Same.trans{H d e:Hp}(a:Same H d)(b:Same d e):Same H e:=λc o h=>b c o (a c o h)
def Same.free{H d:Hp}(e:Same H d){l:Addr}(h:d l=Option.none):H l=Option.none:=by
 cases q:H l with
 |none=>rfl
 |some o=>
  rw[e l o q] at h;cases h
def Same.seq{K:vE}{H d:Hp}{a:Addr}{f:List V}(e:Same H d)(h:SqL K H a f):SqL K d a f:=by
 rcases h with(h|⟨o,h⟩)|h
 ·exact .inl (.inl (e _ _ h))
 ·exact .inl (.inr ⟨o,e _ _ h⟩)
 ·exact .inr h
end L2
namespace DL
open PySem L2
inductive D where
 |non|bl (b:Bool)|int (i:Int)|tup (l:List D)|lst (l:List D)|exc (x:Str)|obj (a:Addr) (l:List D)
def flds:List Str:=["place","side","least","closing"]
def ExcO(a C:Addr):HO:=.ext λh=>∃o d,h.get? a=some o/\o.cls=.ref C/\o.data=.fields d
mutual
def Den(K:vE)(F:Hp):D->V->Prop
 |.non,v=>v=.non
 |.bl b,v=>v=.bl b
 |.int i,v=>v=.int i
 |.tup l,v=>∃a d,v=.ref a/\SqT K F a d/\DenL K F l d
 |.lst l,v=>∃a d,v=.ref a/\SqL K F a d/\DenL K F l d
 |.exc x,v=>∃a C,v=.ref a/\PySem.W.nsIn K mainGlobals x=some (some (.ref C))/\F a=some (ExcO a C)
 |.obj a l,v=>v=.ref a/\∃C g e d,PySem.W.nsIn K mainGlobals "Bound" = some (some (.ref C))/\F a=some (.ins C g e)/\(flds.map λf=>e.lookup f)=d.map some/\DenL K F l d
def DenL(K:vE)(F:Hp):List D->List V->Prop
 |[],e=>e=[]
 |d::l,e=>∃v f,e=v::f/\Den K F d v/\DenL K F l f
end
def Same.tup{K:vE}{H d:Hp}{a:Addr}{f:List V}(e:Same H d)(h:SqT K H a f):SqT K d a f:=by
 rcases h with(h|⟨o,h⟩)|h
 ·exact .inl (.inl (e _ _ h))
 ·exact .inl (.inr ⟨o,e _ _ h⟩)
 ·exact .inr h
mutual
theorem Den.mono{K:vE}{F g:Hp}(s:Same F g):∀(d:D){v:V},Den K F d v->Den K g d v
 |.non,_,h=>by simpa only[Den] using h
 |.bl _,_,h=>by simpa only[Den] using h
 |.int _,_,h=>by simpa only[Den] using h
 |.tup l,_,h=>by
  simp only[Den] at h |-;obtain⟨a,f,e,q,r⟩:=h
  exact⟨a,f,e,Same.tup s q,DenL.mono s l r⟩
 |.lst l,_,h=>by
  simp only[Den] at h |-;obtain⟨a,f,e,q,r⟩:=h
  exact⟨a,f,e,s.seq q,DenL.mono s l r⟩
 |.exc _,_,h=>by
  simp only[Den] at h |-;obtain⟨a,C,e,q,r⟩:=h
  exact⟨a,C,e,q,s _ _ r⟩
 |.obj _ l,_,h=>by
  simp only[Den] at h |-;obtain⟨e,C,m,n,f,c,q,k,r⟩:=h
  exact⟨e,C,m,n,f,c,s _ _ q,k,DenL.mono s l r⟩
theorem DenL.mono{K:vE}{F f:Hp}(s:Same F f):∀(l:List D){g:List V},DenL K F l g->DenL K f l g
 |[],_,h=>by simpa only[DenL] using h
 |d::l,_,h=>by
  simp only[DenL] at h |-;obtain⟨v,m,e,q,r⟩:=h
  exact⟨v,m,e,Den.mono s d q,DenL.mono s l r⟩
end
section
variable{K:vE}{F F':Hp}
def DenL.nil:DenL K F [] []:=by simp only[DenL]
def DenL.cons{d:D}{l:List D}{v:V}{e:List V}(h:Den K F d v)(r:DenL K F l e):DenL K F (d::l) (v::e):=by
 simp only[DenL];exact⟨v,e,rfl,h,r⟩
def DenL.inv_nil{d:List V}(h:DenL K F [] d):d=[]:=by simpa only[DenL] using h
def DenL.inv_cons{d:D}{l:List D}{e:List V}(h:DenL K F (d::l) e):∃v f,e=v::f/\Den K F d v/\DenL K F l f:=by simpa only[DenL] using h
theorem DenL.length:∀{l:List D}{f:List V},DenL K F l f->f.length=l.length
 |[],_,h=>by rw[h.inv_nil];rfl
 |d::l,_,h=>by
  obtain⟨v,g,e,_,r⟩:=h.inv_cons
  subst e;rw[Zr,Zr,r.length]
theorem DenL.get:∀{l:List D}{f:List V}{i:Nat}{d:D},DenL K F l f->l[i]? = some d->∃v,f[i]? = some v/\Den K F d v
 |[],_,_,_,_,e=>by simp at e
 |d::l,_,0,g,h,e=>by
  obtain⟨v,m,z,q,r⟩:=h.inv_cons
  subst z;simp at e;subst e
  exact⟨v,by simp,q⟩
 |d::l,_,i+1,g,h,e=>by
  obtain⟨v,m,z,q,r⟩:=h.inv_cons
  subst z;obtain⟨u,n,o⟩:=DenL.get (i:=i) (d:=g) r (by simpa using e)
  exact⟨u,by simpa using n,o⟩
theorem DenL.append:∀{l m:List D}{f e:List V},DenL K F l f->DenL K F m e->DenL K F (l++m) (f++e)
 |[],_,_,_,h,q=>by rw[h.inv_nil];simpa using q
 |d::l,m,_,e,h,q=>by
  obtain⟨v,g,z,p,r⟩:=h.inv_cons
  subst z;exact DenL.cons p (DenL.append r q)
theorem DenL.take:∀{l:List D}{e:List V}(n:Nat),DenL K F l e->DenL K F (l.take n) (e.take n)
 |[],_,n,h=>by rw[h.inv_nil];simpa using DenL.nil
 |_::_,_,0,_=>by simpa using DenL.nil
 |d::l,_,n+1,h=>by
  obtain⟨v,f,z,p,r⟩:=h.inv_cons
  subst z;exact DenL.cons p (DenL.take n r)
theorem DenL.drop:∀{l:List D}{e:List V}(n:Nat),DenL K F l e->DenL K F (l.drop n) (e.drop n)
 |[],_,n,h=>by rw[h.inv_nil];simpa using DenL.nil
 |_::_,_,0,h=>by simpa using h
 |d::l,_,n+1,h=>by
  obtain⟨v,f,z,p,r⟩:=h.inv_cons
  subst z;simpa using DenL.drop n r
theorem DenL.ints:∀(d:List Int),DenL K F (d.map D.int) (d.map V.int)
 |[]=>DenL.nil
 |n::d=>DenL.cons (by simp only[Den]) (DenL.ints d)
theorem Den.int{i:Int}{v:V}(h:Den K F (.int i) v):v=.int i:=by simpa only[Den] using h
theorem Den.bl{b:Bool}{v:V}(h:Den K F (.bl b) v):v=.bl b:=by simpa only[Den] using h
theorem Den.non{v:V}(h:Den K F .non v):v=.non:=by simpa only[Den] using h
theorem Den.tup{l:List D}{v:V}(h:Den K F (.tup l) v):∃a d,v=.ref a/\SqT K F a d/\DenL K F l d:=by simpa only[Den] using h
theorem Den.lst{l:List D}{v:V}(h:Den K F (.lst l) v):∃a d,v=.ref a/\SqL K F a d/\DenL K F l d:=by simpa only[Den] using h
theorem Den.exc{x:Str}{v:V}(h:Den K F (.exc x) v):∃a C,v=.ref a/\PySem.W.nsIn K mainGlobals x=some (some (.ref C))/\F a=some (ExcO a C):=by simpa only[Den] using h
theorem Den.obj{a:Addr}{l:List D}{v:V}(h:Den K F (.obj a l) v):v=.ref a/\∃C g d e,PySem.W.nsIn K mainGlobals "Bound" = some (some (.ref C))/\F a=some (.ins C g d)/\(flds.map λf=>d.lookup f)=e.map some/\DenL K F l e:=by simpa only[Den] using h
def Den.obj_mk{a C e:Addr}{l:List D}{d:List (Str×V)}{xs:List V}(c:PySem.W.nsIn K mainGlobals "Bound" = some (some (.ref C)))(q:F a=some (.ins C e d))(k:(flds.map λf=>d.lookup f)=xs.map some)(r:DenL K F l xs):Den K F (.obj a l) (.ref a):=by simp only[Den];exact⟨trivial,C,e,d,xs,c,q,k,r⟩
def Den.int_mk{i:Int}:Den K F (.int i) (.int i):=by simp only[Den]
def Den.bl_mk{b:Bool}:Den K F (.bl b) (.bl b):=by simp only[Den]
def Den.non_mk:Den K F .non .non:=by simp only[Den]
def Den.tup_mk{l:List D}{a:Addr}{d:List V}(q:SqT K F a d)(r:DenL K F l d):Den K F (.tup l) (.ref a):=by simp only[Den];exact⟨a,d,rfl,q,r⟩
def Den.lst_mk{l:List D}{a:Addr}{d:List V}(q:SqL K F a d)(r:DenL K F l d):Den K F (.lst l) (.ref a):=by simp only[Den];exact⟨a,d,rfl,q,r⟩
end
inductive W where
 |val (d:D)|new (l:List D)
def W.d:W->D
 |.val d=>d
 |.new l=>.lst l
abbrev Rho:=List (Option D)
structure ER(K:vE)(H0 Fc F H:Hp)(σ:St)(ρ:Rho):Prop where
 sub:Same F H
 same:Same H0 H
 base:Same Fc F
 new:∀a o,F a=some o->Fc a=some o\/H0 a=none
 env:∀(i:Nat) d,ρ[i]? = some (some d)->∃v,σ[i]? = some (some v)/\Den K F d v
def RW(K:vE)(f F H:Hp):W->V->Prop
 |.val d,v=>Den K F d v
 |.new l,v=>∃a e,v=.ref a/\F a=none/\f a=none/\H a=some (.lst e)/\DenL K F l e
def zba{F:Hp}{a:Addr}{o:HO}(h:F a=none):Same F (upd F a o):=λb u e=>by
 rw[Bt (λz=>by subst z;rw[h] at e;cases e)];exact e
section
variable{K:vE}{H0 Fc F H:Hp}{σ:St}{ρ:Rho}
def ER.lay(R:ER K H0 Fc F H σ ρ){a:Addr}(o:HO)(g:H a=none):ER K H0 Fc (upd F a o) (upd H a o) σ ρ/\Same F (upd F a o):=by
 have l:F a=none:=by
  cases q:F a with
  |none=>rfl
  |some u=>rw[R.sub a u q] at g;cases g
 have m:H0 a=none:=R.same.free g;have h:=zba (o:=o) l;refine⟨⟨λb u e=>?_,R.same.trans (zba g),R.base.trans h,λb u e=>?_,λi d e=>?_⟩,h⟩
 ·by_cases f:b=a
  ·subst f;rw[Bv] at e |-;exact e
  ·rw[Bt f] at e |-;exact R.sub b u e
 ·by_cases f:b=a
  ·subst f;exact .inr m
  ·rw[Bt f] at e;exact R.new b u e
 ·obtain⟨v,n,p⟩:=R.env i d e
  exact⟨v,n,p.mono h⟩
def ER.freeze(R:ER K H0 Fc F H σ ρ){a:Addr}{g:List V}(l:F a=none)(m:H0 a=none)(n:H a=some (.lst g)):ER K H0 Fc (upd F a (.lst g)) H σ ρ/\Same F (upd F a (.lst g)):=by
 have h:=zba (o:=.lst g) l;refine⟨⟨λb u e=>?_,R.same,R.base.trans h,λb u e=>?_,λi d e=>?_⟩,h⟩
 ·by_cases f:b=a
  ·subst f;rw[Bv] at e;cases e;exact n
  ·rw[Bt f] at e;exact R.sub b u e
 ·by_cases f:b=a
  ·subst f;exact .inr m
  ·rw[Bt f] at e;exact R.new b u e
 ·obtain⟨v,p,q⟩:=R.env i d e
  exact⟨v,p,q.mono h⟩
theorem RW.freeze{w:W}{v:V}(R:ER K H0 Fc F H σ ρ)(h:RW K H0 F H w v):∃f,Same F f/\ER K H0 Fc f H σ ρ/\Den K f w.d v:=by
 cases w with
 |val d=>exact⟨F,Same.refl _,R,h⟩
 |new l=>
  obtain⟨a,p,e,g,m,n,r⟩:=h
  subst e;obtain⟨o,s⟩:=R.freeze g m n
  exact⟨_,s,o,Den.lst_mk (SqL.of Bv) (r.mono s)⟩
end
section
variable(K:vE)(H0 Fc:Hp)(ρ:Rho)
def tD(w:W):TE:=λf H Q=>∃F,ER K H0 Fc F H f ρ/\∀v d e,Same F e->ER K H0 Fc e d f ρ->RW K H0 e d w v->Q v d
def tDf(d:D):TE:=λf H Q=>∃F,ER K H0 Fc F H f ρ/\∀v g e,Same F e->ER K H0 Fc e g f ρ->Den K e d v->Q v g
def tDA(h:List D):TA:=λe H Q=>∃F,ER K H0 Fc F H e ρ/\∀f g d,Same F d->ER K H0 Fc d g e ρ->DenL K d h f->Q f g
def tDT(b:Bool):TT:=λd H Q=>∃F,ER K H0 Fc F H d ρ/\∀e f,Same F f->ER K H0 Fc f e d ρ->Q b e
end
def PE.mono{X:Cx}{e:Expr}{t g:TE}(h:PE X e t)(k:∀d H Q,g d H Q->t d H Q):PE X e g:=λf s d H Q I q=>h f s d H Q I (k d H Q q)
def PT.mono{X:Cx}{e:Expr}{t g:TT}(h:PT X e t)(k:∀d H Q,g d H Q->t d H Q):PT X e g:=λf s d H Q I q=>h f s d H Q I (k d H Q q)
def PW.mono{X:Cx}{e:Expr}{t g:TT}(h:PW X e t)(k:∀d H Q,g d H Q->t d H Q):PW X e g:=λl f s d H Q I q=>h l f s d H Q I (k d H Q q)
def PA.mono{X:Cx}{e:List Expr}{t g:TA}(h:PA X e t)(k:∀d H Q,g d H Q->t d H Q):PA X e g:=λpos f s d H Q I q=>h pos f s d H Q I (k d H Q q)
def PS.mono{X:Cx}{e:Stmt}{t g:TS}(h:PS X e t)(k:∀D d H,g D d H->t D d H):PS X e g:=λf s d H D I q=>h f s d H D I (k D d H q)
def PSs.mono{X:Cx}{e:List Stmt}{t g:TS}(h:PSs X e t)(k:∀D d H,g D d H->t D d H):PSs X e g:=λf s d H D I q=>h f s d H D I (k D d H q)
def DE(X:Cx)(e:Expr)(d:Rho)(w:W):Prop:=∀f g,PE X e (tD X.K f g d w)
def DF(X:Cx)(e:Expr)(f:Rho)(d:D):Prop:=∀g h,PE X e (tDf X.K g h f d)
def DA(X:Cx)(d:List Expr)(e:Rho)(f:List D):Prop:=∀g h,PA X d (tDA X.K g h e f)
def DT(X:Cx)(e:Expr)(d:Rho)(b:Bool):Prop:=∀f g,PT X e (tDT X.K f g d b)
def DW(X:Cx)(e:Expr)(d:Rho)(b:Bool):Prop:=∀f g,PW X e (tDT X.K f g d b)
section
variable{X:Cx}{e a b c:Expr}{es:List Expr}{ρ:Rho}{w:W}{pos:Pos}
def DE.df(h:DE X e ρ w):DF X e ρ w.d:=λf g=>PE.mono (h f g) λr H Q ⟨F,R,k⟩=>
 ⟨F,R,λv l t s m q=>by
  obtain⟨n,o,R2,p⟩:=RW.freeze m q
  exact k v l n (s.trans o) R2 p⟩
def DF.de{d:D}(h:DF X e ρ d):DE X e ρ (.val d):=λf g=>PE.mono (h f g) λo H Q ⟨F,R,k⟩=>⟨F,R,λv l m s n q=>k v l m s n q⟩
def DF.var{i:Nat}{x:Str}{d:D}(f:X.N[i]? = some x)(g:Vis X.env.scope x)(h:(x == ("__debug__" : Str))=false)(e:(x == ("__classdict__" : Str))=false)(l:ρ[i]? = some (some d)):DF X (.Name x pos) ρ d:=λo p=>
 PE.mono (zax f g h e) λq H Q ⟨F,R,k⟩=>by
  obtain⟨v,m,n⟩:=R.env i d l
  exact⟨v,m,k v H F (Same.refl _) R n⟩
def DF.cint{i:Int}{j}:DF X (.Constant (.int i) j pos) ρ (.int i):=λd e=>PE.mono pe_int λf H Q ⟨F,R,k⟩=>k _ H F (Same.refl _) R Den.int_mk
def DF.cbl{i:Bool}{j}:DF X (.Constant (.bool i) j pos) ρ (.bl i):=λd e=>PE.mono pe_bl λf H Q ⟨F,R,k⟩=>k _ H F (Same.refl _) R Den.bl_mk
def DF.cnon{j}:DF X (.Constant .none j pos) ρ .non:=λd e=>PE.mono yhj λf H Q ⟨F,R,k⟩=>k _ H F (Same.refl _) R Den.non_mk
def zdv{x y:D}{e f:Hp}{r:R2}{w:W}{K:vE}
 (n:∀H F d v u (Q:VK),ER K e f F H d ρ->Den K F x v->Den K F y u->(∀l g h,Same F h->ER K e f h g d ρ->RW K e h g w l->Q l g)->r v u H Q):
  ∀d H Q,tD K e f ρ w d H Q->tOp r (tDf K e f ρ x) (tDf K e f ρ y) d H Q:=λd H Q ⟨F,R,k⟩=>
 ⟨F,R,λv G o p q s=>⟨o,q,λu t z m R2 A=>n t z d v u Q R2 (s.mono m) A λl g h B C E=>k l g h ((p.trans m).trans B) C E⟩⟩
def DE.opI{d:Operator}{C:Int->Int->Prop}{g:Int->Int->V}{x y:Int}{z:D}(h:OpR X (binaryOp d) (rI C g))(l:DF X a ρ (.int x))(m:DF X b ρ (.int y))(n:C x y)(o:∀K F,Den K F z (g x y)):
  DE X (.BinOp a d b pos) ρ (.val z):=λe f=>PE.mono (yle h (l e f) (m e f)) (zdv λH F t v u Q R p q k=>by
   have r:=p.int;have s:=q.int;subst r;subst s;exact⟨x,y,rfl,rfl,n,k _ H F (Same.refl _) R (o _ _)⟩)
def DE.opI0{d:Operator}{g:Int->Int->V}{x y:Int}{z:D}(h:OpR X (binaryOp d) (rI0 g))(l:DF X a ρ (.int x))(m:DF X b ρ (.int y))(n:∀K F,Den K F z (g x y)):
  DE X (.BinOp a d b pos) ρ (.val z):=λe f=>PE.mono (yle h (l e f) (m e f)) (zdv λH F s v u Q R o p k=>by
   have q:=o.int;have r:=p.int;subst q;subst r;exact⟨x,y,rfl,rfl,k _ H F (Same.refl _) R (n _ _)⟩)
end
open PySem L2 PyProof.Rows
section
variable{K:vE}{H0 Fc F H:Hp}{σ:L2.St}{ρ:Rho}
def ER.put(R:ER K H0 Fc F H σ ρ){a:Addr}(o:HO)(d:H a=none):ER K H0 Fc F (upd H a o) σ ρ/\F a=none/\H0 a=none:=by
 have e:F a=none:=by
  cases q:F a with
  |none=>rfl
  |some u=>rw[R.sub a u q] at d;cases d
 exact⟨⟨R.sub.trans (zba d),R.same.trans (zba d),R.base,R.new,R.env⟩,e,R.same.free d⟩
end
section
variable{K:vE}{H0 F H:Hp}
theorem RW.v{d:D}{v:V}(h:Den K F d v):RW K H0 F H (.val d) v:=h
theorem RW.int{i:Int}:RW K H0 F H (.val (.int i)) (.int i):=RW.v Den.int_mk
theorem RW.bl{i:Bool}:RW K H0 F H (.val (.bl i)) (.bl i):=RW.v Den.bl_mk
def RW.n{l:List D}{a:Addr}{d:List V}(e:F a=none)(f:H0 a=none)(g:H a=some (.lst d))(h:DenL K F l d):RW K H0 F H (.new l) (.ref a):=⟨a,d,rfl,e,f,g,h⟩
end
section
variable{X:Cx}{e a b c:Expr}{es:List Expr}{ρ:Rho}{w:W}{pos:Pos}
def yis{x:D}{e h:Hp}{r:V->Hp->VK->Prop}{w:W}{K:vE}
 (m:∀H F d v (Q:VK),ER K e h F H d ρ->Den K F x v->(∀l f g,Same F g->ER K e h g f d ρ->RW K e g f w l->Q l f)->r v H Q):
  ∀d H Q,tD K e h ρ w d H Q->tUn r (tDf K e h ρ x) d H Q:=λd H Q ⟨F,R,k⟩=>
 ⟨F,R,λv n o p q s=>m n o d v Q q s λl f g t u z=>k l f g (p.trans t) u z⟩
def DE.neg{x:Int}(d:DF X a ρ (.int x)):DE X (.UnaryOp .USub a pos) ρ (.val (.int (-x))):=λe f=>PE.mono (pe_un un_neg (d e f)) (yis λH F l v Q R g k=>by
 have h:=g.int;subst h;exact⟨x,rfl,k _ H F (Same.refl _) R RW.int⟩)
def Br:Expr->Bool
 |.Starred _ _=>false
 |_=>true
def Bw{env:Env}(h:Br e=true):starEach (e::es) env=(false,eval e env)::starEach es env:=by
 cases e<;>first|rfl|(cases h;done)
theorem zdc{env:Env}:∀{es:List Expr},es.all Br=true->(backTo pos (starEach es env)).any (·.1)=false
 |[],_=>rfl
 |e::es,h=>by
  rw[Qc,Zk] at h;rw[Bw h.1];show(false || (backTo pos (starEach es env)).any (·.1))=false;rw[zdc h.2];rfl
theorem DA.nil:DA X [] ρ []:=λd e=>PA.mono zgg λf H Q ⟨F,R,k⟩=>k [] H F (Same.refl _) R DenL.nil
theorem DA.cons{d:D}{f:List D}(m:DF X e ρ d)(n:DA X es ρ f)(o:Br e=true):DA X (e::es) ρ (d::f):=λg h=>
 PA.mono (zct (m g h) (n g h) (Bw o)) λA H Q ⟨F,R,k⟩=>
  ⟨F,R,λv B p q r s=>⟨p,r,λt u w l R2 z=>k (v::t) u w (q.trans l) R2 (DenL.cons (s.mono l) z)⟩⟩
theorem DE.tup{d:List D}{g}(h:DA X es ρ d)(l:d.length<=sizeLine):DE X (.Tuple es g pos) ρ (.val (.tup d)):=λm n=>PE.mono (pe_tup (h m n)) λt H Q ⟨F,R,k⟩=>
 ⟨F,R,λo u w q r e=>⟨by rw[e.length];exact l,λp s=>by
  obtain⟨R2,f⟩:=r.lay (.tup o) s
  exact k _ _ _ (q.trans f) R2 (RW.v (Den.tup_mk (SqT.of Bv) (e.mono f)))⟩⟩
theorem DE.lst{d:List D}(f:DA X es ρ d)(g:d.length<=sizeLine):DE X (.List es pos) ρ (.new d):=λh l=>PE.mono (zxu (f h l)) λu H Q ⟨F,R,k⟩=>
 ⟨F,R,λm v w o q e=>⟨by rw[e.length];exact g,λp r=>by
  obtain⟨R2,s,t⟩:=q.put (.lst m) r
  exact k _ _ _ o R2 (RW.n s t Bv e)⟩⟩
def zdp:Expr->Bool
 |.Slice _ _ _ _=>false
 |_=>true
def zxq(h:zdp b=true):ybk b:=λo i=>by
 cases b<;>first|rfl|(cases h;done)
def ybg{K:vE}{F:Hp}{l:List D}{f:List V}{i:Int}{d:D}(h:DenL K F l f)(e:atI l i=some d):∃v,atI f i=some v/\Den K F d v:=by
 unfold atI at e |-;rw[h.length];cases q:ixN l.length i with
 |none=>rw[q] at e;cases e
 |some j=>
  rw[q] at e;exact h.get e
def DE.ixT{l:List D}{i:Int}{d:D}(g:DF X a ρ (.tup l))(h:DF X b ρ (.int i))(m:zdp b=true)(n:atI l i=some d):DE X (.Subscript a b pos) ρ (.val d):=λe f=>
 PE.mono (pe_ix ix_tup (g e f) (h e f) (zxq m)) (zdv λH F C v u Q R o q k=>by
  obtain⟨p,s,t,w,r⟩:=o.tup
  have z:=q.int;subst t;subst z;obtain⟨y,A,B⟩:=ybg r n
  exact⟨p,s,i,y,rfl,rfl,Same.tup R.sub w,A,k _ H F (Same.refl _) R (RW.v B)⟩)
def DE.ixL{l:List D}{i:Int}{d:D}(g:DF X a ρ (.lst l))(h:DF X b ρ (.int i))(m:zdp b=true)(n:atI l i=some d):DE X (.Subscript a b pos) ρ (.val d):=λe f=>
 PE.mono (pe_ix ymn (g e f) (h e f) (zxq m)) (zdv λH F C v u Q R o q k=>by
  obtain⟨p,s,t,w,r⟩:=o.lst
  have z:=q.int;subst t;subst z;obtain⟨y,A,B⟩:=ybg r n
  exact⟨p,s,i,y,rfl,rfl,R.sub.seq w,A,k _ H F (Same.refl _) R (RW.v B)⟩)
def DO(X:Cx)(e:Option Expr)(ρ:Rho)(o:Option Int):Prop:=∀d f,PO X e (λg H Q=>∃F,ER X.K d f F H g ρ/\∀h l,Same F l->ER X.K d f l h g ρ->Q o h)
theorem DO.none:DO X none ρ none:=λe f pins s d H Q I ⟨F,R,k⟩=>ylc pins s d H Q I (k H F (Same.refl _) R)
theorem DO.some{i:Int}(h:DF X e ρ (.int i)):DO X (some e) ρ (some i):=λd f pins s g H Q I ⟨F,R,k⟩=>ylb (h d f) pins s g H Q I
 ⟨F,R,λv l m n o p=>⟨i,p.int,k l m n o⟩⟩
def cutD(l:List D)(d e:Option Int):List D:=(l.drop (HT.sIx l.length 0 d)).take (HT.sIx l.length l.length e-HT.sIx l.length 0 d)
def yfk{K:vE}{F:Hp}{l:List D}{d:List V}{e f:Option Int}(h:DenL K F l d):DenL K F (cutD l e f) (cutV d e f):=by
 unfold cutD cutV;rw[h.length];exact(h.drop _).take _
def DE.slL{l:List D}{h m:Option Expr}{i j:Option Int}{t:Pos}(u:DF X a ρ (.lst l))(w:DO X h ρ i)(z:DO X m ρ j):DE X (.Subscript a (.Slice h m none t) pos) ρ (.new (cutD l i j)):=λd e=>
 PE.mono (ydn yjn (u d e) (w d e) (z d e)) λO H Q ⟨F,R,k⟩=>⟨F,R,λv P A B C E=>⟨A,C,λS G f R2=>⟨G,R2,λH3 T g o=>by
  obtain⟨p,s,I,J,r⟩:=E.lst
  subst I;refine⟨p,s,rfl,o.sub.seq (g.seq (f.seq J)),λq K=>?_⟩
  obtain⟨L,M,N⟩:=o.put (.lst (cutV s i j)) K
  exact k _ _ _ (B.trans (f.trans g)) L (RW.n M N Bv (yfk ((r.mono f).mono g)))⟩⟩⟩
def spD(K:vE)(n:Nat)(g:∅):Sp:=λh H Q _=>∃F f w,Same F H/\DenL K F f h/\f.length=n/\g f=some w /\
 ∀v d e,Same H d->Same F e->Same e d->(∀a o,e a=some o->F a=some o\/H a=none)->RW K H e d w v->Q v d
def yin(X:Cx)(x:Str)(n:Nat)(e:∅):Prop:=∃(k:Nat) (f:Addr) (d:FuncData) (ps:List Str),
 FnOk X.prog X.w X.K X.mg X.base CX0 k f d ps (spD X.K n e)/\Room k X.A/\X.mg x=some (.ref f)/\PySem.W.keepIn X.K (.ref f)=true/\Binds X.K d ps []
def ER.called{K:vE}{H0 Fc F H f g:Hp}{σ:L2.St}{ρ:Rho}(R:ER K H0 Fc F H σ ρ)(l:Same H g)(h:Same F f)(m:Same f g)(n:∀a o,f a=some o->F a=some o\/H a=none):ER K H0 Fc f g σ ρ:=
 ⟨m,R.same.trans l,R.base.trans h,λa o e=>(n a o e).elim (R.new a o) λz=>.inr (R.same.free z),λi d e=>by
  obtain⟨v,p,q⟩:=R.env i d e
  exact⟨v,p,q.mono h⟩⟩
def DE.call{x:Str}{p:Pos}{n:Nat}{q:∅}{g:List D}(t:yin X x n q)(u:Gl X x)(h:(x == ("__debug__" : Str))=false)(z:DA X (e::es) ρ g)(A:g.length=n)(B:q g=some w)(C:Br e=true)(m:es.all Br=true):
  DE X (.Call (.Name x p) (e::es) [] pos) ρ w:=λI J=>by
 obtain⟨k,f,fd,ps,G,K,L,M,N⟩:=t
 refine PE.mono (zpt (E:=E0) G K u L M N .nil ydr (z I J) h (Bw C) (zdc m)) λσ H Q ⟨F,R,k⟩=>⟨F,R,λvs H1 O P o S=>?_⟩
 refine⟨O,g,w,o.sub,by rw[Qm];exact S,A,B,λv T U V r Y Z s=>k v T U (P.trans r) (o.called V r Y Z) ?_⟩
 cases w with
 |val d=>exact s
 |new l=>
  obtain⟨a,xs,e1,b1,b2,b3,b4⟩:=s
  exact⟨a,xs,e1,b1,o.same.free b2,b3,b4⟩
def DT.val{e:Expr}{k:Bool}(h:DF X e ρ (.bl k))(f:∀d,isTrue e X.env d=(do let v <-d;standAt e.pos;holding [v] (truthy v))):DT X e ρ k:=λg l=>
 PT.mono (pt_val (h g l) f) λs H Q ⟨F,R,q⟩=>⟨F,R,λv m n o p r=>⟨k,r.bl,q m n o p⟩⟩
def DT.not{k:Bool}(h:DT X a ρ k):DT X (.UnaryOp .Not a pos) ρ (!k):=λd e=>PT.mono (pt_not (h d e)) λn H Q ⟨F,R,q⟩=>⟨F,R,λf g l m=>q f g l m⟩
def DW.dt{k:Bool}(h:DW X e ρ k):DT X e ρ k:=λd f=>(h d f).pt
def DW.and1{k:Bool}(h:DT X a ρ k):DW X (.BoolOp .And [a] pos) ρ k:=λd e=>ykp (h d e)
def DW.or1{k:Bool}(h:DT X a ρ k):DW X (.BoolOp .Or [a] pos) ρ k:=λd e=>pw_or1 (h d e)
def DW.andT{k:Bool}(h:DT X a ρ true)(f:DW X (.BoolOp .And (b::es) pos) ρ k):DW X (.BoolOp .And (a::b::es) pos) ρ k:=λd e=>PW.mono (yhe (h d e) (f d e)) λr H Q ⟨F,R,q⟩=>
 ⟨F,R,λs g l m=>iteT (⟨g,m,λn o p R2=>q n o (l.trans p) R2⟩)⟩
def DW.andF{tb}(h:DT X a ρ false)(d:PW X (.BoolOp .And (b::es) pos) tb):DW X (.BoolOp .And (a::b::es) pos) ρ false:=λe f=>PW.mono (yhe (h e f) d) λo H Q ⟨F,R,q⟩=>
 ⟨F,R,λg l m n=>iteF (q g l m n)⟩
def DW.orF{k:Bool}(h:DT X a ρ false)(f:DW X (.BoolOp .Or (b::es) pos) ρ k):DW X (.BoolOp .Or (a::b::es) pos) ρ k:=λd e=>PW.mono (pw_or (h d e) (f d e)) λr H Q ⟨F,R,q⟩=>
 ⟨F,R,λs g l m=>iteF (⟨g,m,λn o p R2=>q n o (l.trans p) R2⟩)⟩
def DW.orT{tb}(h:DT X a ρ true)(d:PW X (.BoolOp .Or (b::es) pos) tb):DW X (.BoolOp .Or (a::b::es) pos) ρ true:=λe f=>PW.mono (pw_or (h e f) d) λo H Q ⟨F,R,q⟩=>
 ⟨F,R,λg l m n=>iteT (q g l m n)⟩
def zrv:PW X e (λ_ _ _=>False):=λ_ _ _ _ _ _ _ h=>h.elim
def zhf:PE X e (λ_ _ _=>False):=λ_ _ _ _ _ _ h=>h.elim
def DE.not{k:Bool}(h:DF X a ρ (.bl k)):DE X (.UnaryOp .Not a pos) ρ (.val (.bl (!k))):=λd e=>PE.mono (pe_not (h d e)) λo H Q ⟨F,R,q⟩=>
 ⟨F,R,λv f g l m n=>⟨k,n.bl,q _ f g l m RW.bl⟩⟩
def DE.one{d}(h:DE X a ρ w):DE X (.BoolOp d [a] pos) ρ w:=λe f=>pe_one (h e f)
def DE.andT(h:DF X a ρ (.bl true))(f:DE X (.BoolOp .And (b::es) pos) ρ w):DE X (.BoolOp .And (a::b::es) pos) ρ w:=λd e=>PE.mono (yhk (h d e) (f d e)) λt H Q ⟨F,R,q⟩=>
 ⟨F,R,λv u g l m n=>⟨true,n.bl,iteT (⟨g,m,λv o p r R2 s=>q v o p (l.trans r) R2 s⟩)⟩⟩
def DE.andF(h:DF X a ρ (.bl false)):DE X (.BoolOp .And (a::b::es) pos) ρ (.val (.bl false)):=λd e=>PE.mono (yhk (h d e) zhf) λo H Q ⟨F,R,q⟩=>
 ⟨F,R,λv f g l m n=>⟨false,n.bl,iteF (q _ f g l m RW.bl)⟩⟩
def DE.orF(h:DF X a ρ (.bl false))(f:DE X (.BoolOp .Or (b::es) pos) ρ w):DE X (.BoolOp .Or (a::b::es) pos) ρ w:=λd e=>PE.mono (pe_or (h d e) (f d e)) λt H Q ⟨F,R,q⟩=>
 ⟨F,R,λv u g l m n=>⟨false,n.bl,iteF (⟨g,m,λv o p r R2 s=>q v o p (l.trans r) R2 s⟩)⟩⟩
def DE.orT(h:DF X a ρ (.bl true)):DE X (.BoolOp .Or (a::b::es) pos) ρ (.val (.bl true)):=λd e=>PE.mono (pe_or (h d e) zhf) λo H Q ⟨F,R,q⟩=>
 ⟨F,R,λv f g l m n=>⟨true,n.bl,iteT (q _ f g l m RW.bl)⟩⟩
def DE.ifT{c:Expr}(f:DT X c ρ true)(g:DE X a ρ w):DE X (.IfExp c a b pos) ρ w:=λd e=>PE.mono (zrz (f d e) (g d e) zhf) λs H Q ⟨F,R,q⟩=>
 ⟨F,R,λt h l m=>iteT (⟨h,m,λv n o p R2 r=>q v n o (l.trans p) R2 r⟩)⟩
def DE.ifF{c:Expr}(f:DT X c ρ false)(g:DE X b ρ w):DE X (.IfExp c a b pos) ρ w:=λd e=>PE.mono (zrz (f d e) zhf (g d e)) λs H Q ⟨F,R,q⟩=>
 ⟨F,R,λt h l m=>iteF (⟨h,m,λv n o p R2 r=>q v n o (l.trans p) R2 r⟩)⟩
def zcr(X:Cx)(d:CmpOp)(x y:D)(k:Bool):Prop:=∃r,OpR X (compareOp d) r /\
 ∀(H F:Hp) (v u:V) (Q:VK),Same F H->Den X.K F x v->Den X.K F y u->Q (.bl k) H->r v u H Q
def DE.cmp{d:CmpOp}{x y:D}{k:Bool}(g:zcr X d x y k)(h:DF X a ρ x)(l:DF X b ρ y)(m:behindInMarks d b=false):DE X (.Compare a [d] [b] pos) ρ (.val (.bl k)):=λe f=>by
 obtain⟨r,n,o⟩:=g
 exact PE.mono (ylh n (h e f) (l e f) m) (zdv λH F t v u Q R p s q=>o H F v u Q R.sub p s (q _ H F (Same.refl _) R RW.bl))
def DT.cmp{d:CmpOp}{x y:D}{k:Bool}(m:zcr X d x y k)(n:DF X a ρ x)(o:DF X b ρ y)(p:behindInMarks d b=false):DT X (.Compare a [d] [b] pos) ρ k:=λe f=>by
 obtain⟨r,s,t⟩:=m
 refine PT.mono (yky s (n e f) (o e f) p) λE H Q ⟨F,R,q⟩=>⟨F,R,λv G w z A B=>⟨w,A,λu g h l R2 C=>?_⟩⟩
 exact t g h v u _ R2.sub (B.mono l) C ⟨k,rfl,q g h (z.trans l) R2⟩
def cmpI{d:CmpOp}{g:Int->Int->Bool}{x y:Int}(e:OpR X (compareOp d) (rI0 λi j=>.bl (g i j))):zcr X d (.int x) (.int y) (g x y):=
 ⟨_,e,λH F v u Q s f h q=>⟨x,y,f.int,h.int,q⟩⟩
def cmp_lt{x y:Int}:zcr X .Lt (.int x) (.int y) (decide (x<y)):=cmpI op_lt
def cmp_le{x y:Int}:zcr X .LtE (.int x) (.int y) (decide (x<=y)):=cmpI op_le
def cmp_gt{x y:Int}:zcr X .Gt (.int x) (.int y) (decide (y<x)):=cmpI op_gt
def cmp_ge{x y:Int}:zcr X .GtE (.int x) (.int y) (decide (y<=x)):=cmpI op_ge
def yoe{x y:Int}:zcr X .Eq (.int x) (.int y) (decide (x=y)):=⟨_,op_eq,λH F v u Q s d e q=>by
 have f:=d.int;have g:=e.int;subst f;subst g;exact⟨rfl,by rw[zlv,Gd];exact q⟩⟩
def yoa{x y:Int}:zcr X .NotEq (.int x) (.int y) (!decide (x=y)):=⟨_,op_ne,λH F v u Q s d e q=>by
 have f:=d.int;have g:=e.int;subst f;subst g;exact⟨rfl,by rw[zlv,Gd];exact q⟩⟩
def yof{x y:Bool}:zcr X .Eq (.bl x) (.bl y) (x == y):=⟨_,op_eq,λH F v u Q s d e q=>by
 have f:=d.bl;have g:=e.bl;subst f;subst g;exact⟨rfl,by rw[zsz];exact q⟩⟩
def yob{x y:Bool}:zcr X .NotEq (.bl x) (.bl y) (!(x == y)):=⟨_,op_ne,λH F v u Q s d e q=>by
 have f:=d.bl;have g:=e.bl;subst f;subst g;exact⟨rfl,by rw[zsz];exact q⟩⟩
def zoa:D->Bool
 |.non=>true
 |_=>false
def znz{K:vE}{F:Hp}{d:D}{v:V}(h:Den K F d v):decide (v=V.non)=zoa d:=by
 cases d with
 |non=>rw[h.non];rfl
 |bl b=>rw[h.bl];rfl
 |int i=>rw[h.int];rfl
 |tup l=>obtain⟨a,f,e,_⟩:=h.tup;rw[e];rfl
 |lst l=>obtain⟨a,f,e,_⟩:=h.lst;rw[e];rfl
 |exc x=>obtain⟨a,C,e,_⟩:=h.exc;rw[e];rfl
 |obj a l=>rw[h.obj.1];rfl
def yoc{x:D}:zcr X .Is x .non (zoa x):=⟨_,op_isN,λH F v u Q s d e q=>⟨e.non,by rw[znz d];exact q⟩⟩
def yfp{x:D}:zcr X .IsNot x .non (!zoa x):=⟨_,ylm,λH F v u Q s d e q=>⟨e.non,by rw[znz d];exact q⟩⟩
def zgw(X:Cx)(f:Value)(o:List D)(w:W):Prop:=∃r,zjx X f r /\
 ∀(d h H F:Hp) (l:L2.St) (ρ:Rho) (m:List V) (Q:VK),ER X.K d h F H l ρ->DenL X.K F o m->(∀n e g,Same F g->ER X.K d h g e l ρ->RW X.K d g e w n->Q n e)->r m H Q
def DE.blt{x:Str}{id:String}{p:Pos}{g:List D}(m:zgw X (.builtin id) g w)(n:Gl X x)(o:X.mg x=none)(q:bootBuiltins x=some (.builtin id))(s:x ≠ "__name__")(d:(x == ("__debug__" : Str))=false)(t:DA X (e::es) ρ g)(u:Br e=true)(f:es.all Br=true):
  DE X (.Call (.Name x p) (e::es) [] pos) ρ w:=λh l=>by
 obtain⟨r,v,z⟩:=m
 refine PE.mono (ydp v n o q (t h l) s d (Bw u) (zdc f)) λA H Q ⟨F,R,k⟩=>⟨F,R,λB C E G I J=>?_⟩
 exact z h l C E A ρ B Q I J λK L M N O P=>k K L M (G.trans N) O P
def DE.ty{x:Str}{id:String}{p:Pos}{g:List D}(m:zgw X (.type id) g w)(n:Gl X x)(o:X.mg x=none)(q:bootBuiltins x=some (.type id))(s:x ≠ "__name__")(d:(x == ("__debug__" : Str))=false)(t:DA X (e::es) ρ g)(u:Br e=true)(f:es.all Br=true):
  DE X (.Call (.Name x p) (e::es) [] pos) ρ w:=λh l=>by
 obtain⟨r,v,z⟩:=m
 refine PE.mono (zxv v n o q (t h l) s d (Bw u) (zdc f)) λA H Q ⟨F,R,k⟩=>⟨F,R,λB C E G I J=>?_⟩
 exact z h l C E A ρ B Q I J λK L M N O P=>k K L M (G.trans N) O P
def DenL.one{K:vE}{F:Hp}{d:D}{f:List V}(h:DenL K F [d] f):∃v,f=[v]/\Den K F d v:=by
 obtain⟨v,r,e,q,z⟩:=h.inv_cons
 rw[z.inv_nil] at e;exact⟨v,e,q⟩
def DenL.two{K:vE}{F:Hp}{d g:D}{l:List V}(h:DenL K F [d,g] l):∃v f,l=[v,f]/\Den K F d v/\Den K F g f:=by
 obtain⟨v,r,e,q,z⟩:=h.inv_cons
 obtain⟨f,m,n⟩:=z.one
 rw[m] at e;exact⟨v,f,e,q,n⟩
def yoo{i:Int}:zgw X (.builtin "abs") [.int i] (.val (.int (if i<0 then -i else i))):=⟨_,yfs,λd f H F g ρ h Q R q k=>by
 obtain⟨v,e,q⟩:=q.one
 rw[q.int] at e;exact⟨i,e,k _ H F (Same.refl _) R RW.int⟩⟩
def yga{l:List D}:zgw X (.builtin "len") [.lst l] (.val (.int l.length)):=⟨_,zgm,λh m H F n ρ o Q R q k=>by
 obtain⟨v,e,q⟩:=q.one
 obtain⟨p,d,f,g,r⟩:=q.lst
 rw[f] at e;exact⟨p,d,e,.inl (R.sub.seq g),by rw[r.length];exact k _ H F (Same.refl _) R RW.int⟩⟩
def yfz{l:List D}:zgw X (.builtin "len") [.tup l] (.val (.int l.length)):=⟨_,zgm,λh m H F n ρ o Q R q k=>by
 obtain⟨v,e,q⟩:=q.one
 obtain⟨p,d,f,g,r⟩:=q.tup
 rw[f] at e;exact⟨p,d,e,.inr (Same.tup R.sub g),by rw[r.length];exact k _ H F (Same.refl _) R RW.int⟩⟩
end
open PySem L2 PyProof.Rows
mutual
def lf:D->Bool
 |.non=>true
 |.bl _=>true
 |.int _=>true
 |.tup l=>lfL l
 |.lst _=>false
 |.exc _=>false
 |.obj _ _=>false
def lfL:List D->Bool
 |[]=>true
 |d::l=>lf d && lfL l
end
def lfW:W->Bool
 |.val d=>lf d
 |.new l=>lfL l
mutual
theorem Den.shrink{K:vE}{F m:Hp}(s:∀a g,SqT K F a g->SqT K m a g):∀(d:D){v:V},lf d=true->Den K F d v->Den K m d v
 |.non,_,_,h=>by simpa only[Den] using h
 |.bl _,_,_,h=>by simpa only[Den] using h
 |.int _,_,_,h=>by simpa only[Den] using h
 |.tup l,_,f,h=>by
  obtain⟨a,g,e,q,r⟩:=h.tup
  subst e;exact Den.tup_mk (s _ _ q) (DenL.shrink s l (by simpa only[lf] using f) r)
 |.lst l,_,f,h=>by simp only[lf] at f;cases f
 |.exc l,_,f,h=>by simp only[lf] at f;cases f
 |.obj _ _,_,f,h=>by simp only[lf] at f;cases f
theorem DenL.shrink{K:vE}{F m:Hp}(s:∀a g,SqT K F a g->SqT K m a g):∀(l:List D){g:List V},lfL l=true->DenL K F l g->DenL K m l g
 |[],_,_,h=>by simpa only[DenL] using h
 |d::l,_,f,h=>by
  simp only[lfL,Zk] at f;obtain⟨v,n,e,q,r⟩:=h.inv_cons
  subst e;exact DenL.cons (Den.shrink s d f.1 q) (DenL.shrink s l f.2 r)
end
inductive B where
 |sh (d:D)|ow (l:List D)
def B.d:B->D
 |.sh d=>d
 |.ow l=>.lst l
def W.b:W->B
 |.val d=>.sh d
 |.new l=>.ow l
abbrev RhoS:=List (Option B)
def view(e:RhoS):Rho:=e.map (Option.map B.d)
def frz(e:RhoS):RhoS:=e.map (Option.map λb=>.sh b.d)
def ybp{e:RhoS}{i:Nat}{d:D}(h:(view e)[i]? = some (some d)):∃b,e[i]? = some (some b)/\b.d=d:=by
 unfold view at h;rw[Zh] at h;cases q:e[i]? with
 |none=>rw[q] at h;cases h
 |some o=>
  rw[q] at h;cases o with
  |none=>cases h
  |some b=>exact⟨b,rfl,by simpa using h⟩
def zlq{e:RhoS}{i:Nat}{b:B}(h:(frz e)[i]? = some (some b)):∃c,e[i]? = some (some c)/\b=.sh c.d:=by
 unfold frz at h;rw[Zh] at h;cases q:e[i]? with
 |none=>rw[q] at h;cases h
 |some o=>
  rw[q] at h;cases o with
  |none=>cases h
  |some c=>exact⟨c,rfl,by simpa using h.symm⟩
structure SR(K:vE)(H0 Fc F H:Hp)(σ:L2.St)(ρ:RhoS):Prop where
 sub:Same F H
 same:Same H0 H
 base:Same Fc F
 new:∀a o,F a=some o->Fc a=some o\/H0 a=none
 env:∀(i:Nat) d,ρ[i]? = some (~~~d)->∃v,σ[i]? = some (some v)/\Den K F d v
 own:∀(i:Nat) l,ρ[i]? = some (some (.ow l))->∃a xs,σ[i]? = some (some (.ref a))/\F a=none/\H0 a=none/\H a=some (.lst xs)/\DenL K F l xs
 dis:∀(i j:Nat) l m a,ρ[i]? = some (some (.ow l))->ρ[j]? = some (some (.ow m))->σ[i]? = some (some (.ref a))->σ[j]? = some (some (.ref a))->i=j
 len:σ.length=ρ.length
def Owned(d:L2.St)(e:RhoS)(a:Addr):Prop:=∃(i:Nat) (l:List D),e[i]? = some (some (.ow l))/\d[i]? = some (some (.ref a))
section
variable{K:vE}{H0 Fc F H:Hp}{σ:L2.St}{ρ:RhoS}
def SR.owned_none(S:SR K H0 Fc F H σ ρ){a:Addr}(h:Owned σ ρ a):F a=none/\H0 a=none/\∃d,H a=some (.lst d):=by
 obtain⟨i,l,f,g⟩:=h
 obtain⟨b,d,e,p,q,r,_⟩:=S.own i l f
 rw[g] at e;cases e;exact⟨p,q,d,r⟩
open Classical in
def borrow(F H:Hp)(σ:L2.St)(ρ:RhoS):Hp:=λa=>if Owned σ ρ a then H a else F a
open Classical in
theorem SR.borrow(S:SR K H0 Fc F H σ ρ):Same F (borrow F H σ ρ)/\ER K H0 Fc (borrow F H σ ρ) H σ (view ρ):=by
 have s:Same F (DL.borrow F H σ ρ):=λa o e=>by
  unfold DL.borrow;rw[if_neg (λz=>by rw[(S.owned_none z).1] at e;cases e)];exact e
 refine⟨s,⟨λa o e=>?_,S.same,S.base.trans s,λa o e=>?_,λi d e=>?_⟩⟩
 ·unfold DL.borrow at e;by_cases f:Owned σ ρ a
  ·rw[if_pos f] at e;exact e
  ·rw[if_neg f] at e;exact S.sub a o e
 ·unfold DL.borrow at e;by_cases f:Owned σ ρ a
  ·exact .inr (S.owned_none f).2.1
  ·rw[if_neg f] at e;exact S.new a o e
 ·obtain⟨b,g,h⟩:=ybp e
  subst h;cases b with
  |sh d=>
   obtain⟨v,p,q⟩:=S.env i d g
   exact⟨v,p,q.mono s⟩
  |ow l=>
   obtain⟨a,m,p,_,_,r,q⟩:=S.own i l g
   refine⟨_,p,Den.lst_mk (SqL.of ?_) (q.mono s)⟩
   unfold DL.borrow;rw[if_pos ⟨i,l,g,p⟩];exact r
open Classical in
theorem SR.back(S:SR K H0 Fc F H σ ρ){m C:Hp}{w:W}{v:V}(s:Same (DL.borrow F H σ ρ) m)(R:ER K H0 Fc m C σ (view ρ))(q:RW K H0 m C w v)(f:lfW w=true):
  ∃E,Same F E/\SR K H0 Fc E C σ ρ/\RW K H0 E C w v:=by
 have B:∀{a},Owned σ ρ a->∃t,m a=some (.lst t):=λ{a} z=>by
  obtain⟨_,_,t,r⟩:=S.owned_none z
  exact⟨t,s a _ (by unfold DL.borrow;rw[if_pos z];exact r)⟩
 have D:Same F (λa=>if Owned σ ρ a then none else m a):=λa o e=>by
  have g:¬Owned σ ρ a:=λz=>by rw[(S.owned_none z).1] at e;cases e
  show(if Owned σ ρ a then none else m a)=some o;rw[if_neg g];exact s a o (S.borrow.1 a o e)
 have u:∀a o,(if Owned σ ρ a then none else m a)=some o->m a=some o:=λa o e=>by
  by_cases g:Owned σ ρ a
  ·rw[if_pos g] at e;cases e
  ·rw[if_neg g] at e;exact e
 have A:∀a t,SqT K m a t->SqT K (λa=>if Owned σ ρ a then none else m a) a t:=λa t h=>by
  rcases h with h|h
  ·refine .inl ?_;have g:¬Owned σ ρ a:=λz=>by
    obtain⟨M,e⟩:=B z
    rcases h with h|⟨o,h⟩
    ·rw[e] at h;cases h
    ·rw[e] at h;cases h
   rcases h with h|⟨o,h⟩
   ·exact .inl (by show(if Owned σ ρ a then none else m a)=_;rw[if_neg g];exact h)
   ·exact .inr ⟨o,by show(if Owned σ ρ a then none else m a)=_;rw[if_neg g];exact h⟩
  ·exact .inr h
 refine⟨_,D,⟨λa o e=>R.sub a o (u a o e),R.same,S.base.trans D,λa o e=>R.new a o (u a o e),λi d e=>?_,λi l e=>?_,S.dis,S.len⟩,?_⟩
 ·obtain⟨v,p,q⟩:=S.env i d e
  exact⟨v,p,q.mono D⟩
 ·obtain⟨a,t,p,L,G,I,J⟩:=S.own i l e
  have g:Owned σ ρ a:=⟨i,l,e,p⟩;refine⟨a,t,p,if_pos g,G,?_,J.mono D⟩
  exact R.sub _ _ (s a _ (by unfold DL.borrow;rw[if_pos g];exact I))
 ·cases w with
  |val d=>exact Den.shrink A d f q
  |new l=>
   obtain⟨a,t,e,L,G,I,J⟩:=q
   subst e;refine RW.n ?_ G I (DenL.shrink A l f J);by_cases g:Owned σ ρ a
   ·exact if_pos g
   ·exact(if_neg g).trans L
def SR.freeze(S:SR K H0 Fc F H σ ρ){g n:Hp}(s:Same (DL.borrow F H σ ρ) g)(R:ER K H0 Fc g n σ (view ρ)):Same F g/\SR K H0 Fc g n σ (frz ρ):=by
 refine⟨S.borrow.1.trans s,R.sub,R.same,R.base,R.new,λi d e=>?_,λi l e=>?_,λi j l m a e=>?_,?_⟩
 ·obtain⟨c,h,f⟩:=zlq e
  cases f;refine R.env i c.d ?_;unfold view;rw[Zh,h];rfl
 ·obtain⟨c,h,f⟩:=zlq e
  cases f
 ·obtain⟨c,h,f⟩:=zlq e
  cases f
 ·rw[S.len];unfold frz;rw[Zc]
def after(w:W)(ρ:RhoS):RhoS:=if lfW w=true then ρ else frz ρ
theorem SR.after(S:SR K H0 Fc F H σ ρ){d e:Hp}{w:W}{v:V}(s:Same (DL.borrow F H σ ρ) d)(R:ER K H0 Fc d e σ (view ρ))(q:RW K H0 d e w v):
  ∃g,Same F g/\SR K H0 Fc g e σ (DL.after w ρ)/\RW K H0 g e w v:=by
 unfold DL.after;by_cases f:lfW w=true
 ·rw[if_pos f];exact S.back s R q f
 ·rw[if_neg f];obtain⟨a,b⟩:=S.freeze s R
  exact⟨d,a,b,q⟩
def SR.bind(S:SR K H0 Fc F H σ ρ){i:Nat}{w:W}{v:V}(q:RW K H0 F H w v)(D:i<ρ.length)(E:∀l,w=.new l->∀a,v=.ref a -> ¬Owned σ ρ a):SR K H0 Fc F H (σ.set i (some v)) (ρ.set i (some w.b)):=by
 have u:i<σ.length:=by rw[S.len];exact D
 have z:(σ.set i (some v))[i]? = some (some v):=by rw[Yy u]
 have A:(ρ.set i (some w.b))[i]? = some (some w.b):=by rw[Yy D]
 have o:∀{j},j≠i->(σ.set i (some v))[j]? = σ[j]?:=λh=>Yl (Wz h)
 have p:∀{j},j≠i->(ρ.set i (some w.b))[j]? = ρ[j]?:=λh=>Yl (Wz h)
 refine⟨S.sub,S.same,S.base,S.new,λj d e=>?_,λj l e=>?_,λj k l m a g r s t=>?_,by rw[W6,W6];exact S.len⟩
 ·by_cases f:j=i
  ·subst f;rw[A] at e;refine⟨v,z,?_⟩
   cases w with
   |val C=>cases e;exact q
   |new l=>cases e
  ·rw[p f] at e;rw[o f];exact S.env j d e
 ·by_cases f:j=i
  ·subst f;rw[A] at e;cases w with
   |val C=>cases e
   |new B=>
    cases e;obtain⟨a,G,g,I,J,L,M⟩:=q
    subst g;exact⟨a,G,z,I,J,L,M⟩
  ·rw[p f] at e;rw[o f];exact S.own j l e
 ·by_cases f:j=i
  ·by_cases n:k=i
   ·rw[f,n]
   ·subst f;rw[A] at g;rw[z] at s;rw[p n] at r;rw[o n] at t;cases w with
    |val C=>cases g
    |new B=>cases s;exact absurd ⟨k,m,r,t⟩ (E B rfl a rfl)
  ·by_cases n:k=i
   ·subst n;rw[A] at r;rw[z] at t;rw[p f] at g;rw[o f] at s;cases w with
    |val C=>cases r
    |new B=>cases t;exact absurd ⟨j,l,g,s⟩ (E B rfl a rfl)
   ·rw[p f] at g;rw[o f] at s;rw[p n] at r;rw[o n] at t;exact S.dis j k l m a g r s t
def Owned.not_after(S:SR K H0 Fc F H σ ρ){g p:Hp}{w:W}{v:V}(s:Same (DL.borrow F H σ ρ) g)(q:RW K H0 g p w v):∀l,w=.new l->∀a,v=.ref a -> ¬Owned σ (DL.after w ρ) a:=λl e a ev z=>by
 subst e;obtain⟨b,A,n,t,_⟩:=q
 rw[ev] at n;cases n;obtain⟨i,m,d,u⟩:=z
 unfold DL.after at d;by_cases f:lfW (.new l)=true
 ·rw[if_pos f] at d;have o:Owned σ ρ a:=⟨i,m,d,u⟩;obtain⟨_,_,B,r⟩:=S.owned_none o
  have:=s a _ (by unfold DL.borrow;rw[if_pos o];exact r)
  rw[t] at this;cases this
 ·rw[if_neg f] at d;obtain⟨c,_,h⟩:=zlq d
  cases h
def SR.mut(S:SR K H0 Fc F H σ ρ){i:Nat}{l m:List D}{a:Addr}{g:List V}(h:ρ[i]? = some (some (.ow l)))(n:σ[i]? = some (some (.ref a)))(q:DenL K F m g):SR K H0 Fc F (upd H a (.lst g)) σ (ρ.set i (some (.ow m))):=by
 have w:Owned σ ρ a:=⟨i,l,h,n⟩;obtain⟨s,t,W,X⟩:=S.owned_none w
 have A:i<ρ.length:=(Zm.mp h).1;have u:(ρ.set i (some (.ow m)))[i]? = some (some (.ow m)):=by rw[Yy A]
 have r:∀{j},j≠i->(ρ.set i (some (.ow m)))[j]? = ρ[j]?:=λh=>Yl (Wz h)
 have v:∀{j:Nat}{k:List D},(ρ.set i (some (B.ow m)))[j]? = some (some (B.ow k))->∃C:List D,ρ[j]? = some (some (B.ow C)):=λ{j k} e=>by
  by_cases f:j=i
  ·subst f;exact⟨l,h⟩
  ·rw[r f] at e;exact⟨k,e⟩
 refine⟨λb o e=>?_,λb o e=>?_,S.base,S.new,λj d e=>?_,λj k e=>?_,λj k p Y b E G I J=>?_,by rw[W6];exact S.len⟩
 ·rw[Bt (λz=>by subst z;rw[s] at e;cases e)];exact S.sub b o e
 ·rw[Bt (λz=>by subst z;rw[t] at e;cases e)];exact S.same b o e
 ·by_cases f:j=i
  ·subst f;rw[u] at e;cases e
  ·rw[r f] at e;exact S.env j d e
 ·by_cases f:j=i
  ·subst f;rw[u] at e;cases e;exact⟨a,g,n,s,t,Bv,q⟩
  ·rw[r f] at e;obtain⟨b,L,p,M,N,O,P⟩:=S.own j k e
   refine⟨b,L,p,M,N,?_,P⟩
   rw[Bt (λz=>by subst z;exact f (S.dis j i k l b e h p n))];exact O
 ·obtain⟨Q,R⟩:=v E
  obtain⟨T,U⟩:=v G
  exact S.dis j k Q T b R U I J
end
inductive Out where
 |nx (ρ:RhoS)|rt (w:W)
structure RT(H0 Fc F H:Hp):Prop where
 sub:Same F H
 same:Same H0 H
 base:Same Fc F
 new:∀a o,F a=some o->Fc a=some o\/H0 a=none
def tS(K:vE)(g h:Hp)(m:RhoS)(o:Out):TS:=λD n H=>∃F,SR K g h F H n m/\match o with
 |.nx l=>∀e d f,Same F f->SR K g h f d e l->D.nx e d
 |.rt w=>∀v d f,RT g h f d->RW K g f d w v->D.rt v d
def DS(X:Cx)(s:Stmt)(d:RhoS)(o:Out):Prop:=∀e f,PS X s (tS X.K e f d o)
def DSs(X:Cx)(s:List Stmt)(d:RhoS)(o:Out):Prop:=∀e f,PSs X s (tS X.K e f d o)
section
variable{X:Cx}{st:Stmt}{rest:List Stmt}{ρ ρ':RhoS}{o:Out}{w:W}{e:Expr}{pos:Pos}
def DSs.nil:DSs X [] ρ (.nx ρ):=λe f=>PSs.mono zxk λD d H ⟨F,S,k⟩=>k d H F (Same.refl _) S
def DSs.next(g:DS X st ρ (.nx ρ'))(h:DSs X rest ρ' o):DSs X (st::rest) ρ o:=λe f=>PSs.mono (zak (g e f) (h e f)) λD v H ⟨F,S,k⟩=>
 ⟨F,S,λl z m n p=>⟨m,p,by
  cases o with
  |nx q=>exact λd r s t u=>k d r s (n.trans t) u
  |rt w=>exact k⟩⟩
def DSs.ret(d:DS X st ρ (.rt w)):DSs X (st::rest) ρ (.rt w):=λe f=>PSs.mono (zak (d e f) zii) λD g H ⟨F,S,k⟩=>⟨F,S,k⟩
def DS.asg{i:Nat}{x:Str}{d:Pos}(h:X.N.Nodup)(l:X.N[i]? = some x)(m:Loc X.env.scope x)(n:X.fn x=true\/X.env.scope.names.lookup x=some .local)(o:swapsWith e (some (.Name x d)) pos.line X.env=pure false)(p:i<ρ.length)
 (r:DE X e (view ρ) w):DS X (.Assign [.Name x d] e pos) ρ (.nx ((after w ρ).set i (some w.b))):=λs t=>PS.mono (zkg h l m (r s t) o n) λD C H ⟨F,S,k⟩=>by
 obtain⟨E,R⟩:=S.borrow
 refine⟨_,R,λv u G f R2 q=>?_⟩
 obtain⟨z,A,g,B⟩:=S.after f R2 q
 refine k _ u z A (g.bind B ?_ (Owned.not_after S f q));rw[<-g.len,S.len];exact p
def DS.ret(d:DE X e (view ρ) w):DS X (.Return (some e) pos) ρ (.rt w):=λf g=>PS.mono (zry (d f g)) λD m H ⟨F,S,k⟩=>by
 obtain⟨n,R⟩:=S.borrow
 exact⟨_,R,λv h l o R2 q=>k v h l ⟨R2.sub,R2.same,R2.base,R2.new⟩ q⟩
def DS.retOwn{i:Nat}{x:Str}{l:List D}{p:Pos}(e:X.N[i]? = some x)(f:Vis X.env.scope x)(g:(x == ("__debug__" : Str))=false)(d:(x == ("__classdict__" : Str))=false)(h:ρ[i]? = some (some (.ow l))):
  DS X (.Return (some (.Name x p)) pos) ρ (.rt (.new l)):=λs t=>PS.mono (zry (zax e f g d)) λD u H ⟨F,S,k⟩=>by
 obtain⟨a,v,p,m,o,q,r⟩:=S.own i l h
 exact⟨_,p,k _ H F ⟨S.sub,S.same,S.base,S.new⟩ (RW.n m o q r)⟩
def SR.tested{K:vE}{H0 Fc F H:Hp}{σ:L2.St}(S:SR K H0 Fc F H σ ρ){e f:Hp}(s:Same (DL.borrow F H σ ρ) e)(R:ER K H0 Fc e f σ (view ρ)):∃d,Same F d/\SR K H0 Fc d f σ ρ:=by
 obtain⟨d,a,b,_⟩:=S.back (w:=.val .non) (v:=.non) s R (RW.v Den.non_mk) rfl
 exact⟨d,a,b⟩
def tS.pre{K:vE}{f h F l H m:Hp}{n:L2.St}{g:RhoS}{D:Ends}(s:Same F l)(p:SR K f h l m n g)
 (k:match o with|.nx ρ'=>∀σ' d e,Same F e->SR K f h e d σ' ρ'->D.nx σ' d|.rt w=>∀v d e,RT f h e d->RW K f e d w v->D.rt v d):tS K f h g o D n m:=⟨l,p,by
 cases o with
 |nx ρ'=>exact λσ' d e q r=>k σ' d e (s.trans q) r
 |rt w=>exact k⟩
def DS.ifT{c:Expr}{a b:List Stmt}(f:DT X c (view ρ) true)(g:DSs X a ρ o):DS X (.If c a b pos) ρ o:=λd e=>PS.mono (ykz (f d e) (g d e) zii) λD n H ⟨F,S,k⟩=>by
 obtain⟨p,R⟩:=S.borrow
 refine⟨_,R,λq r h R2=>iteT ?_⟩
 obtain⟨s,l,m⟩:=S.tested h R2
 exact tS.pre (H:=H) l m k
def DS.ifF{c:Expr}{a b:List Stmt}(f:DT X c (view ρ) false)(g:DSs X b ρ o):DS X (.If c a b pos) ρ o:=λd e=>PS.mono (ykz (f d e) zii (g d e)) λD n H ⟨F,S,k⟩=>by
 obtain⟨p,R⟩:=S.borrow
 refine⟨_,R,λq r h R2=>iteF ?_⟩
 obtain⟨s,l,m⟩:=S.tested h R2
 exact tS.pre (H:=H) l m k
def zar(c:RhoS->Option Bool)(b:RhoS->Option Out):Nat->RhoS->Option Out
 |0,_=>none
 |n+1,ρ=>match c ρ with
  |none=>none
  |some false=>some (.nx ρ)
  |some true=>match b ρ with
   |none=>none
   |some (.rt w)=>some (.rt w)
   |some (.nx ρ')=>zar c b n ρ'
def DS.while_{c:Expr}{d:List Stmt}{v:RhoS->Option Bool}{B:RhoS->Option Out}{n:Nat}(W:PassesOwn (model X.prog X.w) X.A X.env X.xe)(Y:∀ρ k,v ρ=some k->DT X c (view ρ) k)(Z:∀ρ o,B ρ=some o->DSs X d ρ o)
 (hw:zar v B n ρ=some o):DS X (.While c d [] pos) ρ o:=λt u=>by
 have pc:PT X c (λr H Q=>∃ρ k,v ρ=some k/\tDT X.K t u (view ρ) k r H Q):=λpins s r H Q I ⟨ρ,k,h,q⟩=>Y ρ k h t u pins s r H Q I q
 have pb:PSs X d (λD r H=>∃ρ o,B ρ=some o/\tS X.K t u ρ o D r H):=λpins s r H D I ⟨ρ,o,h,q⟩=>Z ρ o h t u pins s r H D I q
 refine PS.mono (zrx W pc pb) λD r H ⟨F,S,k⟩=>?_;refine⟨λm f C=>∃ρ' p,Same F p/\SR X.K t u p C f ρ'/\zar v B m ρ'=some o,⟨n,ρ,F,Same.refl _,S,hw⟩,?_⟩
 rintro m J H1 ⟨g,F1,P,T,l⟩
 cases m with
 |zero=>cases l
 |succ m=>
  unfold zar at l;cases e:v g with
  |none=>rw[e] at l;cases l
  |some U=>
   rw[e] at l;obtain⟨s0,R⟩:=T.borrow
   refine⟨g,U,e,_,R,λH2 F2 s2 R2=>?_⟩
   obtain⟨L,V,M⟩:=T.tested s2 R2
   cases U with
   |false=>
    refine iteF ?_;cases l;exact k J H2 L (P.trans V) M
   |true=>
    refine iteT ?_;cases G:B g with
    |none=>simp only[G] at l;cases l
    |some o2=>
     simp only[G] at l;cases o2 with
     |rt w=>
      cases l;exact⟨λ_ _=>False,λ_ _ z=>z.elim,g,_,G,L,M,k⟩
     |nx E=>
      refine⟨λf C=>∃p,Same F p/\SR X.K t u p C f E,λf C ⟨p,N,O⟩=>⟨m,Wx _,E,p,N,O,l⟩,g,_,G,L,M,?_⟩
      exact λf C p N O=>⟨p,(P.trans V).trans N,O⟩
end
open PySem L2 PyProof.Rows
section
variable{K:vE}{H0 Fc F H:Hp}{σ:L2.St}{ρ:RhoS}
def SR.lay(S:SR K H0 Fc F H σ ρ){a:Addr}(o:HO)(g:H a=none):SR K H0 Fc (upd F a o) (upd H a o) σ ρ/\Same F (upd F a o):=by
 have n:F a=none:=by
  cases q:F a with
  |none=>rfl
  |some u=>rw[S.sub a u q] at g;cases g
 have r:H0 a=none:=S.same.free g;have h:=zba (o:=o) n;refine⟨⟨λb u e=>?_,S.same.trans (zba g),S.base.trans h,λb u e=>?_,λi d e=>?_,λi l e=>?_,S.dis,S.len⟩,h⟩
 ·by_cases f:b=a
  ·subst f;rw[Bv] at e |-;exact e
  ·rw[Bt f] at e |-;exact S.sub b u e
 ·by_cases f:b=a
  ·subst f;exact .inr r
  ·rw[Bt f] at e;exact S.new b u e
 ·obtain⟨v,s,t⟩:=S.env i d e
  exact⟨v,s,t.mono h⟩
 ·obtain⟨b,w,p,A,B,m,C⟩:=S.own i l e
  have f:b≠a:=λz=>by subst z;rw[m] at g;cases g
  exact⟨b,w,p,by rw[Bt f];exact A,B,by rw[Bt f];exact m,C.mono h⟩
def SR.frz1(S:SR K H0 Fc F H σ ρ){a:Addr}{g:List V}(m:F a=none)(n:H0 a=none)(q:H a=some (.lst g))(r:¬Owned σ ρ a):SR K H0 Fc (upd F a (.lst g)) H σ ρ/\Same F (upd F a (.lst g)):=by
 have h:=zba (o:=.lst g) m;refine⟨⟨λb u e=>?_,S.same,S.base.trans h,λb u e=>?_,λi d e=>?_,λi l e=>?_,S.dis,S.len⟩,h⟩
 ·by_cases f:b=a
  ·subst f;rw[Bv] at e;cases e;exact q
  ·rw[Bt f] at e;exact S.sub b u e
 ·by_cases f:b=a
  ·subst f;exact .inr n
  ·rw[Bt f] at e;exact S.new b u e
 ·obtain⟨v,s,t⟩:=S.env i d e
  exact⟨v,s,t.mono h⟩
 ·obtain⟨b,w,p,A,B,C,D⟩:=S.own i l e
  have f:b≠a:=λz=>by subst z;exact r ⟨i,l,e,p⟩
  exact⟨b,w,p,by rw[Bt f];exact A,B,C,D.mono h⟩
def SR.afterF(S:SR K H0 Fc F H σ ρ){g h:Hp}{w:W}{v:V}(s:Same (DL.borrow F H σ ρ) g)(R:ER K H0 Fc g h σ (view ρ))(q:RW K H0 g h w v):
  ∃f,Same F f/\SR K H0 Fc f h σ (DL.after w ρ)/\Den K f w.d v:=by
 have r:=Owned.not_after S s q;obtain⟨f,m,n,o⟩:=S.after s R q
 cases w with
 |val d=>exact⟨f,m,n,o⟩
 |new l=>
  obtain⟨a,C,e,t,u,z,A⟩:=o
  subst e;obtain⟨B,p⟩:=n.frz1 t u z (r l rfl a rfl)
  exact⟨_,m.trans p,B,Den.lst_mk (SqL.of Bv) (A.mono p)⟩
end
def PG.mono{X:Cx}{f:Expr}{t g:TG}(h:PG X f t)(k:∀v d H Q,g v d H Q->t v d H Q):PG X f g:=λe s d H v u Q I r q=>h e s d H v u Q I r (k v d H Q q)
def PGs.mono{X:Cx}{f:List Expr}{t g:TGs}(h:PGs X f t)(k:∀v d H Q,g v d H Q->t v d H Q):PGs X f g:=λe s d H v u Q I r q=>h e s d H v u Q I r (k v d H Q q)
def PI.mono{X:Cx}{f g:Expr}{t l:TI}(h:PI X f g t)(k:∀d H R,l d H R->t d H R):PI X f g l:=λe s d H R I q=>h e s d H R I (k d H R q)
def DG(X:Cx)(l:Expr)(d:D)(m f:RhoS):Prop:=∀g h,PG X l (λv n H Q=>∃F,SR X.K g h F H n m/\Den X.K F d v/\∀e,SR X.K g h F H e f->Q e H)
def DGs(X:Cx)(h:List Expr)(l:List D)(m e:RhoS):Prop:=∀f g,PGs X h (λn o H Q=>∃F,SR X.K f g F H o m/\DenL X.K F l n/\∀d,SR X.K f g F H d e->Q d H)
section
variable{X:Cx}{st:Stmt}{rest:List Stmt}{ρ ρ' ρ2:RhoS}{o:Out}{w:W}{e t:Expr}{ts es:List Expr}{pos:Pos}{d:D}{ds:List D}
def SR.bindS{K:vE}{H0 Fc F H:Hp}{σ:L2.St}(S:SR K H0 Fc F H σ ρ){i:Nat}{v:V}(q:Den K F d v)(f:i<ρ.length):SR K H0 Fc F H (σ.set i (some v)) (ρ.set i (~~~d)):=
 S.bind (w:=.val d) (RW.v q) f λl e=>by cases e
def DG.name{i:Nat}{x:Str}(e:X.N.Nodup)(f:X.N[i]? = some x)(g:Loc X.env.scope x)(h:X.fn x=true\/X.env.scope.names.lookup x=some .local)(l:i<ρ.length):DG X (.Name x pos) d ρ (ρ.set i (~~~d)):=λm n=>
 PG.mono (zil e f g h) λv o H Q ⟨F,S,q,k⟩=>k _ (S.bindS q l)
def DGs.nil:DGs X [] [] ρ ρ:=λe f=>PGs.mono zps λg d H Q ⟨F,S,q,k⟩=>⟨q.inv_nil,k d S⟩
def zbl{env:Env}(h:Br t=true):assignEach (t::ts) env=(false,assign t env)::assignEach ts env:=by
 cases t<;>first|rfl|(cases h;done)
theorem zbf{env:Env}:∀{ts:List Expr},ts.all Br=true->(assignEach ts env).length=ts.length/\(assignEach ts env).findIdx? (·.1)=none
 |[],_=>⟨rfl,rfl⟩
 |t::ts,h=>by
  rw[Qc,Zk] at h;obtain⟨a,b⟩:=zbf (env:=env) h.2
  rw[zbl h.1];refine⟨by rw[Zr,a,Zr],?_⟩
  rw[List.findIdx?_cons,b];rfl
def DGs.cons(h:DG X t d ρ ρ')(l:DGs X ts ds ρ' ρ2)(m:Br t=true):DGs X (t::ts) (d::ds) ρ ρ2:=λf g=>
 PGs.mono (zhe (h f g) (l f g) (by rw[zbl m];rfl)) λu w H Q ⟨F,S,q,k⟩=>by
  obtain⟨v,r,e,n,o⟩:=q.inv_cons
  exact⟨v,r,e,F,S,n,λp s=>⟨F,s,o,k⟩⟩
theorem DG.tup{k}(f:X.calm=true)(h:DGs X ts ds ρ ρ')(d:ts.all Br=true)(g:ds.length=ts.length):DG X (.Tuple ts k pos) (.tup ds) ρ ρ':=λl m=>
 PG.mono (zxt (n:=ts.length) f (h l m) (zbf d).1 (zbf d).2) λv s H Q ⟨F,S,q,k⟩=>by
  obtain⟨a,o,e,p,r⟩:=q.tup
  exact⟨a,o,e,Same.tup S.sub p,by rw[r.length];exact g,F,S,r,k⟩
def DS.asgT(n:DE X e (view ρ) w)(o:DG X t w.d (after w ρ) ρ')(p:swapsWithSole [t] e pos.line X.env=pure false)(r:swappedStores [t] e X.env=pure none)(f:Br t=true):DS X (.Assign [t] e pos) ρ (.nx ρ'):=λh l=>
 PS.mono (yhg (n h l) (o h l) p r (by rw[zbl f];rfl)) λD E H ⟨F,S,k⟩=>by
  obtain⟨G,R⟩:=S.borrow
  refine⟨_,R,λv s I u R2 q=>?_⟩
  obtain⟨m,z,A,B⟩:=S.afterF u R2 q
  exact⟨m,A,B,λg C=>k g s m z C⟩
def ymj{K:vE}{G I F H:Hp}{g:L2.St}(S:SR K G I F H g ρ){m L:Hp}{w:List V}(s:Same (DL.borrow F H g ρ) m)(R:ER K G I m L g (view ρ))(q:DenL K m ds w)(f:lfL ds=true):
  ∃A,Same F A/\SR K G I A L g ρ/\DenL K A ds w:=by
 induction ds generalizing w with
 |nil=>
  obtain⟨A,a,b⟩:=S.tested s R
  rw[q.inv_nil];exact⟨A,a,b,DenL.nil⟩
 |cons d ds T=>
  classical
  have key:∀(d:D) (v:V),lf d=true->Den K m d v->Den K (λa=>if Owned g ρ a then none else m a) d v:=λd v f q=>by
   have B:∀a n,SqT K m a n->SqT K (λa=>if Owned g ρ a then none else m a) a n:=λa n h=>by
    rcases h with h|h
    ·refine .inl ?_;have t:¬Owned g ρ a:=λz=>by
      obtain⟨_,_,U,r⟩:=S.owned_none z
      have e:=s a _ (by unfold DL.borrow;rw[if_pos z];exact r);rcases h with h|⟨o,h⟩
      ·rw[e] at h;cases h
      ·rw[e] at h;cases h
     rcases h with h|⟨o,h⟩
     ·exact .inl (by show(if Owned g ρ a then none else m a)=_;rw[if_neg t];exact h)
     ·exact .inr ⟨o,by show(if Owned g ρ a then none else m a)=_;rw[if_neg t];exact h⟩
    ·exact .inr h
   exact Den.shrink B d f q
  have C:∀(l:List D) (n:List V),lfL l=true->DenL K m l n->DenL K (λa=>if Owned g ρ a then none else m a) l n:=λl=>by
   induction l with
   |nil=>intro n _ q;rw[q.inv_nil];exact DenL.nil
   |cons d l J=>
    intro n f q;simp only[lfL,Zk] at f;obtain⟨v,w,e,M,N⟩:=q.inv_cons
    subst e;exact DenL.cons (key d v f.1 M) (J w f.2 N)
  have E:Same F (λa=>if Owned g ρ a then none else m a):=λa o e=>by
   have t:¬Owned g ρ a:=λz=>by rw[(S.owned_none z).1] at e;cases e
   show(if Owned g ρ a then none else m a)=some o;rw[if_neg t];exact s a o (S.borrow.1 a o e)
  have u:∀a o,(if Owned g ρ a then none else m a)=some o->m a=some o:=λa o e=>by
   by_cases t:Owned g ρ a
   ·rw[if_pos t] at e;cases e
   ·rw[if_neg t] at e;exact e
  refine⟨_,E,⟨λa o e=>R.sub a o (u a o e),R.same,S.base.trans E,λa o e=>R.new a o (u a o e),λi d e=>?_,λi l e=>?_,S.dis,S.len⟩,C _ _ f q⟩
  ·obtain⟨v,p,q⟩:=S.env i d e
   exact⟨v,p,q.mono E⟩
  ·obtain⟨a,n,p,X,O,P,Q⟩:=S.own i l e
   have t:Owned g ρ a:=⟨i,l,e,p⟩;refine⟨a,n,p,if_pos t,O,?_,Q.mono E⟩
   exact R.sub _ _ (s a _ (by unfold DL.borrow;rw[if_pos t];exact P))
def DS.par{i j:Nat}{x y:Str}{a b:Expr}{n o p:Pos}{r s d}{f g:D}(t:X.calm=true)(w:X.N.Nodup)(z:X.N[i]? = some x)(A:X.N[j]? = some y)(h:i≠j)
 (B:X.env.scope.names.lookup x=some .local)(C:X.env.scope.names.lookup y=some .local)(E:DA X [a,b] (view ρ) [f,g])(l:i<ρ.length)(m:j<ρ.length)(G:lf f=true)(I:lf g=true)
 (J:swappedStores [.Tuple [.Name x n,.Name y o] r p] (.Tuple [a,b] s d) X.env=pure (some [x,y])):
  DS X (.Assign [.Tuple [.Name x n,.Name y o] r p] (.Tuple [a,b] s d) pos) ρ (.nx ((ρ.set i (~~~f)).set j (~~~g))):=λK L=>
 PS.mono (ps_par t w z A h B C (E K L) J (by rfl)) λD Y H ⟨F,S,k⟩=>by
  obtain⟨Z,R⟩:=S.borrow
  refine⟨_,R,λvs M F2 O R2 q=>?_⟩
  obtain⟨P,Q,T,U⟩:=ymj S O R2 q (by simp[lfL,G,I])
  obtain⟨v,u,e,V,W⟩:=U.two
  refine⟨v,u,e,k _ M P Q ((T.bindS V l).bindS W (by rw[W6];exact m))⟩
def Yields(K:vE)(F H:Hp)(d:D)(x:V)(e:Hp):Prop:=(e=H/\Den K F d x)\/∃p f ds,H p=none/\e=upd H p (.tup f)/\x=.ref p/\d=.tup ds/\DenL K F ds f
def Walks(K:vE)(F:Hp)(J:It)(e:List D):Prop:=∀i H,Same F H->(∀d,e[i]? = some d->J.go i H/\∀x f,J.yld i H x f->Yields K F H d x f)/\(e.length<=i->J.stop i H)
def DI(X:Cx)(n e:Expr)(ρ:RhoS)(d:List D)(ρ':RhoS):Prop:=∀g h,PI X n e (λl H R=>∃F,SR X.K g h F H l ρ/\∀J m f,Same F f->SR X.K g h f m l ρ'->Walks X.K f J d->R J m)
def forN(f:D->RhoS->Option RhoS)(b:RhoS->Option Out):List D->RhoS->Option Out
 |[],ρ=>some (.nx ρ)
 |d::l,ρ=>match f d ρ with
  |none=>none
  |some e=>match b e with
   |none=>none
   |some (.rt w)=>some (.rt w)
   |some (.nx ρ2)=>forN f b l ρ2
def DS.for_{tg t:Expr}{B:List Stmt}{R:D->RhoS->Option RhoS}{T:RhoS->Option Out}{f:List D}(hp:PassesOwn (model X.prog X.w) X.A X.env X.xe)(hc:X.calm=true)(hi:DI X tg t ρ f ρ')
 (hg:∀d ρ ρ',R d ρ=some ρ'->DG X tg d ρ ρ')(hb:∀ρ o,T ρ=some o->DSs X B ρ o)(hw:forN R T f ρ'=some o)(hs:∀x,foldedSetIterable t X.env x=pure x):DS X (.For tg t B [] pos) ρ o:=λE G=>by
 have pg:PG X tg (λv M H Q=>∃d ρ ρ',R d ρ=some ρ'/\∃F,SR X.K E G F H M ρ/\Den X.K F d v/\∀g,SR X.K E G F H g ρ'->Q g H):=λpins s M H v u Q I r ⟨d,ρ,ρ',h,q⟩=>hg d ρ ρ' h E G pins s M H v u Q I r q
 have pb:PSs X B (λD M H=>∃ρ o,T ρ=some o/\tS X.K E G ρ o D M H):=λpins s M H D I ⟨ρ,o,h,q⟩=>hb ρ o h E G pins s M H D I q
 refine PS.mono (zxm hp hc (hi E G) pg pb hs) λD M H ⟨F,S,k⟩=>⟨F,S,λJ H1 F1 s1 S1 wk=>?_⟩
 refine⟨λi m g l=>m=f.length-i/\i<=f.length/\∃ρ2 P,Same F1 P/\SR X.K E G P l g ρ2/\forN R T (f.drop i) ρ2=some o,⟨_,rfl,Yj _,ρ',F1,Same.refl _,S1,hw⟩,?_⟩
 rintro i m U H2 ⟨rfl,a1,ρ2,P,V,S2,n⟩
 have W:=wk i H2 (V.trans S2.sub);by_cases O:i<f.length
 ·have hd:f[i]? = some f[i]:=Zi O;rw[Jk O] at n;obtain⟨go,yl⟩:=W.1 _ hd
  unfold forN at n;cases e1:R f[i] ρ2 with
  |none=>rw[e1] at n;cases n
  |some C=>
   simp only[e1] at n;cases e2:T C with
   |none=>simp only[e2] at n;cases n
   |some o2=>
    simp only[e2] at n;have N:∀x l,J.yld i H2 x l->∃L,Same P L/\SR X.K E G L l U ρ2/\Den X.K L f[i] x:=λx l y=>by
     rcases yl x l y with⟨e,q⟩|⟨p,xs,ds,hp,e,ex,ed,q⟩
     ·subst e;exact⟨P,Same.refl _,S2,q.mono V⟩
     ·subst e ex;obtain⟨Y,Z⟩:=S2.lay (.tup xs) hp
      refine⟨_,Z,Y,?_⟩
      rw[ed];exact Den.tup_mk (SqT.of Bv) ((q.mono V).mono Z)
    cases o2 with
    |rt w=>
     cases n;refine .inr ⟨go,λ_ _=>False,λ_ _ z=>z.elim,λx l y=>?_⟩;obtain⟨L,Z,Y,q3⟩:=N x l y
     exact⟨_,ρ2,C,e1,L,Y,q3,λg S'=>⟨C,_,e2,L,S',k⟩⟩
    |nx a0=>
     refine .inr ⟨go,λg l=>∃F',Same F1 F'/\SR X.K E G F' l g a0,λg l ⟨F',s',S'⟩=>⟨f.length-(i+1),by omega,rfl,O,a0,F',s',S',n⟩,λx l y=>?_⟩;obtain⟨L,Z,Y,q3⟩:=N x l y
     exact⟨_,ρ2,C,e1,L,Y,q3,λg S'=>⟨C,_,e2,L,S',λa2 H5 F5 s5 S5=>⟨F5,(V.trans Z).trans s5,S5⟩⟩⟩
 ·have e:i=f.length:=by omega
  subst e;rw[Bj] at n;cases n;refine .inl ⟨W.2 (Zl _),?_⟩;exact k U H2 P (s1.trans V) S2
def DI.list{s:Expr}{l:List D}(t:DE X e (view ρ) w)(u:w.d=.lst l):DI X s e ρ l (after w ρ):=λz A=>PI.mono (zpr (t z A)) λP H R ⟨F,S,k⟩=>by
 obtain⟨Q,B⟩:=S.borrow
 refine⟨_,B,λv C T E R2 q=>?_⟩
 obtain⟨G,I,n,o⟩:=S.afterF E R2 q
 rw[u] at o;obtain⟨a,f,J,g,r⟩:=o.lst
 refine⟨a,J,⟨f,n.sub.seq g⟩,k _ C G I n λi U h=>⟨λd K=>?_,λm=>⟨f,h.seq g,by rw[r.length];exact m⟩⟩⟩
 obtain⟨y,p,L⟩:=r.get K
 refine⟨⟨f,y,h.seq g,p⟩,λx M ⟨N,O⟩=>?_⟩
 have:=O f (h.seq g)
 rw[p] at this;cases this;exact .inl ⟨N,L⟩
theorem DI.tup{s:Expr}{l:List D}(t:DE X e (view ρ) w)(u:w.d=.tup l):DI X s e ρ l (after w ρ):=λz A=>PI.mono (zxr (t z A)) λP H R ⟨F,S,k⟩=>by
 obtain⟨Q,B⟩:=S.borrow
 refine⟨_,B,λv C T E R2 q=>?_⟩
 obtain⟨G,I,n,o⟩:=S.afterF E R2 q
 rw[u] at o;obtain⟨a,f,J,g,r⟩:=o.tup
 refine⟨a,J,⟨f,Same.tup n.sub g⟩,k _ C G I n λi U h=>⟨λd K=>?_,λm=>⟨f,Same.tup h g,by rw[r.length];exact m⟩⟩⟩
 obtain⟨y,p,L⟩:=r.get K
 refine⟨⟨f,y,Same.tup h g,p⟩,λx M ⟨N,O⟩=>?_⟩
 have:=O f (Same.tup h g)
 rw[p] at this;cases this;exact .inl ⟨N,L⟩
def zao(d:Int)(n:Nat):List D:=(List.range n).map λ(i:Nat)=>D.int (d+(i:Int))
def zge{K:vE}{F:Hp}{h:Int}{n:Nat}:Walks K F (Itr h n) (zao h n):=λi H o=>by
 unfold zao;refine⟨λd e=>?_,λf=>?_⟩
 ·rw[Zh] at e;by_cases g:i<n
  ·rw[Uk g] at e;cases e;exact⟨g,λx p ⟨l,m⟩=>.inl ⟨l,by rw[m];exact Den.int_mk⟩⟩
  ·rw[Yn (by rw[Z7];omega)] at e;cases e
 ·rw[Zc,Z7] at f;exact f
def DI.range1{d a:Expr}{p:Pos}{n:Int}(f:Gl X "range")(g:X.mg "range" = none)(h:DA X [a] (view ρ) [.int n])(l:Br a=true)(m : -(2^62)<=n)(o:n<2^62):DI X d (.Call (.Name "range" p) [a] [] pos) ρ (zao 0 n.toNat) ρ:=λr s=>
 PI.mono (zik f g (h r s) (Bw l)) λC H R ⟨F,S,k⟩=>by
  obtain⟨D,t⟩:=S.borrow
  refine⟨_,t,λE u G w R2 q=>?_⟩
  obtain⟨z,A,B⟩:=S.tested w R2
  obtain⟨v,e,q⟩:=q.one
  rw[q.int] at e;exact⟨n,e,m,o,k _ u z A B zge⟩
end
open PySem L2 PyProof.Rows
def Inv.turned2{X:Cx}{pins:List (Addr×Obj)}{σ:L2.St}{H:Hp}{s:Shared}{B:Heap}{e t p:Addr}{o:HO}{N:Nat}(I:Inv X pins σ H s)(O:FpOk X pins H e)(C:FpOk X pins H t)
 (k:∀b d,b≠e->b≠t->s.heap.get? b=some d->B.get? b=some d)(F:s.heap.objs.size<=p)(D:ObjOk X.prog X.w (upd H p o) B p o):Inv X pins σ (upd H p o) {s with heap:=B,toks:=N}:=by
 obtain⟨G,J,Z,P,Q,R⟩:=O
 obtain⟨K,L,b2,S,T,U⟩:=C
 have f:∀{b:Addr},b∉[e,t]->b≠e/\b≠t:=λh=>by simpa using h
 have E:∀{b:Addr}{d:Obj},s.heap.get? b=some d->b≠p:=λh z=>by
  have:=Zo h
  subst z;exact absurd (Zf this F) (Wq _)
 have l:∀{b:Addr}{u:HO},H b=some u->b≠p:=λh z=>by
  subst z;rw[I.hok.fresh F] at h;cases h
 refine I.step (g':=s.gens) (d':=s.drawn) (ch:=[e,t]) (λb A=>?_) (λb d _ _ g q _=>k b d (f g).1 (f g).2 q) (λb d _ _ g q _=>⟨d.slots,k b d (f g).1 (f g).2 q⟩)
  (λb d g q n=>by rw[Bt (E q)];exact n) (λb d g q=>⟨d,k b d (f g).1 (f g).2 q⟩) (λb M q=>by rw[Bt (l q)];exact q) (λb d M q=>by rw[Bt (l q)];exact q)
  (λb ps q=>⟨#[],by rw[Bt (l q),q];simp⟩) (λm V=>?_) (λb u q=>?_) I.bare
 ·rcases Zg.mp A with z|z
  ·subst z;exact⟨P,J,Q,R⟩
  ·have z:=Zp.mp z;subst z;exact⟨S,L,T,U⟩
 ·obtain⟨d,W,Y,q,r⟩:=V
  exact⟨d,W,Y,k _ d (Wz J) (Wz L) q,r⟩
 ·by_cases A:b=p
  ·subst A;rw[Bv] at q;cases q;exact D
  ·rw[Bt A] at q;refine(I.hok b u q).stay (λc v g z=>k c v ?_ ?_ z) (λc z=>by rw[Bt (l z)];exact z) λc M z=>by rw[Bt (l z)];exact z
   ·rintro rfl
    rcases g with z|z
    ·subst z;rw[G] at q;cases q
    ·rw[G] at z;cases z
   ·rintro rfl
    rcases g with z|z
    ·subst z;rw[K] at q;cases q
    ·rw[K] at z;cases z
def Ite(K:vE)(a:Addr):It:=
 ⟨λi H=>∃d x,SqL K H a d/\d[i]? = some x,λi H x e=>∃p y,H p=none/\x=.ref p/\e=upd H p (.tup [.int (i:Int),y])/\∀d,SqL K H a d->d[i]? = some y,λi H=>∃d,SqL K H a d/\d.length<=i⟩
def zvx{P:Program}{w:World}{K:vE}{C:List Expr}{x1}{tp:Pos}(a e g:Addr)(D:e≠g):Turn P w K (.Tuple C x1 tp) (Ite K a) [e,g] e (λi h=>(∃f,IsEnum h e g (i:Int) f)/\h.IsListIter g a i) where
 mem:=by simp
 obj:=λi h l b A=>by
  obtain⟨⟨f,L⟩,n⟩:=l
  rcases Zg.mp A with z|z
  ·subst z;exact⟨_,L,λv z=>by cases z⟩
  ·have z:=Zp.mp z;subst z;obtain⟨o,e,c,d⟩:=n
   exact⟨o,e,λv z=>by rw[d] at z;cases z⟩
 keep:=λi h h' l k=>by
  obtain⟨⟨f,L⟩,n⟩:=l
  exact⟨⟨f,k e vC _ L⟩,n.at λo q=>k g vC o q⟩
 item:=by
  intro X O Q R hc i r s σ H E I F l S;subst O Q R;obtain⟨⟨f,B⟩,m⟩:=l
  obtain⟨xs,x,M,T⟩:=S
  obtain⟨U,V,p,hz⟩:=I.list M
  obtain⟨u,hu,ru⟩:=V.get T
  refine wpAny_pyNext_enum_item B m p.isList (x:=u) (by simpa using hu) D λL Y G Z a5 a0=>⟨_,rfl,?_⟩
  refine wpAny_letOwnedTupleGo_enum Y λn a1 t=>?_;have J:e<s.heap.objs.size:=Zo B;have a2:g<s.heap.objs.size:=by obtain⟨o,q,_⟩:=id m;exact Zo q
  have a3:n.get? s.heap.objs.size=some {cls:=.type "tuple",data:=.seq #[.int i s.toks,u]}:=(t.2 _ (Z8 J)).trans Z;have a4:∀b N,b≠e->b≠g->s.heap.get? b=some N->n.get? b=some N:=λb N n1 n2 q=>(t.2 b n1).trans (a0 b N n1 n2 q)
  have I2:Inv X r σ (upd H s.heap.objs.size (.tup [.int (i:Int),x])) {s with heap:=n,toks:=s.toks+1}:=by
   refine Inv.turned2 I (F e vC) (F g vC) a4 (Zl _) ?_;exact⟨by show 2<=sizeLine;decide,[.int i s.toks,u],.cons ⟨_,rfl⟩ #v[ru],⟨_,a3,rfl,_,rfl⟩⟩
  refine⟨.ref s.heap.objs.size,_,I2,rfl,⟨_,x,I.hok.fresh (Zl _),rfl,rfl,λys hy=>by rw[I.list_inj hy M];exact T⟩,⟨⟨u,?_⟩,?_⟩,λb A=>?_⟩
  ·have:((i+1:Nat):Int)=(i:Int)+1:=by push_cast;rfl
   show IsEnum n e g ((i+1:Nat):Int) u;rw[this];exact a1
  ·exact G.at λo q=>(t.2 g (Wz D)).trans q
  ·rw[Bt]
   ·exact(F b A).1
   ·rcases Zg.mp A with z|z
    ·subst z;exact Yi J
    ·have z:=Zp.mp z;subst z;exact Yi a2
 done:=by
  intro X O Q R hc i r s σ H E I F l S;subst O Q R;obtain⟨⟨f,B⟩,m⟩:=l
  obtain⟨xs,M,T⟩:=S
  obtain⟨U,V,p,hz⟩:=I.list M
  obtain⟨f0,f1,f2,f3,f4,f5⟩:=F g vC
  have hl:=V.length;exact wpAny_pyNext_enum_end (I.ok.hd hc) B m p.isList (by simp;omega) λh' eb=>⟨rfl,I.turned (t':=s.toks) (λb o A e=>eb b o A e) f0 f1 f3 f4 f5⟩
 self:=λ_ _ _ _ _ l h=>by
  obtain⟨⟨f,B⟩,_⟩:=l
  exact wpAny_pyIter_enum B h
def zjs:bootBuiltins "enumerate" = some (.type "enumerate"):=by decide +kernel
section
variable{X:Cx}{elts:List Expr}{x1:Nat}{tp:Pos}
def iEnum(K:vE)(e:TA):TI:=λf H R=>e f H λg d=>∃a,g=[.ref a]/\(∃h,SqL K d a h)/\R (Ite K a) d
def zxs{a:Expr}{o:TA}{p pos:Pos}(A:Gl X "enumerate")(B:X.mg "enumerate" = none)(C:PA X [a] o)(D:starEach [a] X.env=[(false,eval a X.env)]):PI X (.Tuple elts x1 tp) (.Call (.Name "enumerate" p) [a] [] pos) (iEnum X.K o):=by
 intro d s t H R I h;refine Call_ (zgk I A B zjs (Y8 (thn (C pos d s t H _ I h) λQ f ⟨S,v,m,E,F⟩=>?_) D rfl));obtain⟨l,e,⟨T,G⟩,q⟩:=F
 subst e;obtain⟨u,e,r⟩:=zkp E
 subst e;cases r;obtain⟨J,U,p,V⟩:=m.list G
 refine call_enumerate_list p.isList λL w n M N=>?_;have O:Inv X d t v {f with heap:=L}:=m.kept (t':=f.toks) N;refine wpAny_pyIter_enum w ⟨_,[f.heap.objs.size+1,f.heap.objs.size],_,_,v,rfl,O,zvx l _ _ (Vi _),⟨⟨_,w⟩,n⟩,λb P=>?_,q⟩;have g:f.heap.objs.size<=b:=by
  rcases Zg.mp P with z|z
  ·rw[z];exact Ju _
  ·rw[Zp.mp z];exact Zl _
 exact m.fpOk g (m.hok.fresh g)
end
open PySem L2 PyProof.Rows
section
variable{prog:Program}{w:World}{A:Around}{E:Value->Shared->Prop}{h:Heap}{g:Array GenState}{d:Drawn}{t:Nat}{os:OsState}{a C:Addr}{o:Obj}{vs:Array Value}{K:vE}
end
open PySem L2 PyProof.Rows
section
variable{P:Program}{w:World}{H H':Hp}{h h':Heap}{a:Addr}{o:HO}
end
section
variable{fs:List Addr}{H H':Hp}{h0 h h1 B h':Heap}
end
def CX1(P:Program)(w:World):CXT:=λd H s E e f=>∃(l C:Addr) (m:Value) (B:Heap) (g:Hp),e=.ref l/\f.os=s.os/\AllBare f.gens/\Un (frs d) [] H g s.heap f.heap/\HOk P w g f.heap /\
 Heap.FlyingW B d l (.ref C) m f.heap/\(∀b o,s.heap.get? b=some o->b∉frs d->∃h,B.get? b=some h)/\(∀b u,g b=some u->∃h,B.get? b=some h)/\E (.ref C) none g
section
variable{X:Cx}{pins:List (Addr×Obj)}{σ:L2.St}{H:Hp}{s:Shared}{E:XK}{E':Value->Shared->Prop}
end
open PySem L2 PyProof.Rows
section
variable{X:Cx}{pins:List (Addr×Obj)}{σ:L2.St}{H:Hp}{s:Shared}{E:XK}{E':Value->Shared->Prop}
end
open PySem L2 PyProof.Rows
abbrev zvk:List Str:=["FitError","NoNumber","NoShape","NoSize"]
def subX(x y:Str):Bool:=decide (x=y) || decide (y=("FitError" : Str)) || decide (y=("ValueError" : Str))
def spR(K:vE)(n:Nat)(g:∅):Sp:=λh H Q E=>∃F d x C,Same F H/\DenL K F d h/\d.length=n/\g d=some (.val (.exc x))/\PySem.W.nsIn K mainGlobals x=some (some (.ref C)) /\
 ∀e f,Same H e->Same F f->Same f e->(∀a o,f a=some o->F a=some o\/H a=none)->E (.ref C) none e
def ypf(X:Cx)(x:Str)(n:Nat)(e:∅):Prop:=∃(k:Nat) (f:Addr) (d:FuncData) (ps:List Str),
 FnOk X.prog X.w X.K X.mg X.base (CX1 X.prog X.w) k f d ps (spR X.K n e)/\Room k X.A/\X.mg x=some (.ref f)/\PySem.W.keepIn X.K (.ref f)=true/\Binds X.K d ps []
section
variable{X:Cx}{pins:List (Addr×Obj)}{σ:L2.St}{H:Hp}{s:Shared}{E':Value->Shared->Prop}{e:Expr}{es:List Expr}{pos:Pos}
end
section
variable{X:Cx}{e:Expr}{es:List Expr}{ρ:RhoS}{pos:Pos}{ds:List D}
end
open PySem L2 PyProof.Rows
def isX(d:List Str):D->Option Bool
 |.exc x=>if x∈zvk then some (d.any (subX x)) else none
 |.non=>some false
 |_=>none
section
variable{X:Cx}{a e:Expr}{ρ:Rho}{pos:Pos}
end
open PySem L2 PyProof.Rows
section
variable{X:Cx}{pins:List (Addr×Obj)}{σ:L2.St}{H:Hp}{s:Shared}
end
open PySem L2 PyProof.Rows
mutual
def toP:D->PyData
 |.non=>.none
 |.bl b=>.bool b
 |.int i=>.int i
 |.tup l=>.tuple (toPs l)
 |.lst l=>.list (toPs l)
 |.exc _=>.none
 |.obj _ _=>.none
def toPs:List D->List PyData
 |[]=>[]
 |d::l=>toP d::toPs l
end
mutual
def dOk:Nat->D->Bool
 |_,.non=>true
 |_,.bl _=>true
 |_,.int _=>true
 |0,.tup _=>false
 |n+1,.tup l=>dOkL n l
 |0,.lst _=>false
 |n+1,.lst l=>dOkL n l
 |_,.exc _=>false
 |_,.obj _ _=>false
def dOkL:Nat->List D->Bool
 |_,[]=>true
 |n,d::l=>dOk n d && dOkL n l
end
mutual
def eqD:D->D->Bool
 |.non,.non=>true
 |.bl a,.bl b=>a == b
 |.bl a,.int j=>(if a then 1 else 0) == j
 |.int i,.bl b=>i == (if b then 1 else 0)
 |.int i,.int j=>i == j
 |.tup l,.tup m=>eqL l m
 |.lst l,.lst m=>eqL l m
 |_,_=>false
def eqL:List D->List D->Bool
 |[],[]=>true
 |d::l,e::m=>eqD d e && eqL l m
 |_,_=>false
end
mutual
theorem zqm:∀(n m:Nat) (d e:D),dOk n d=true->dOk m e=true->PyData.eqv (toP d) (toP e)=eqD d e
 |n,m,.tup l,.tup k,f,g=>by
  cases n with
  |zero=>simp only[dOk] at f;cases f
  |succ n=>
   cases m with
   |zero=>simp only[dOk] at g;cases g
   |succ m=>
    simp only[dOk] at f g;simp only[toP,PyData.eqv,eqD];exact eqv_L n m l k f g
 |n,m,.lst l,.lst k,f,g=>by
  cases n with
  |zero=>simp only[dOk] at f;cases f
  |succ n=>
   cases m with
   |zero=>simp only[dOk] at g;cases g
   |succ m=>
    simp only[dOk] at f g;simp only[toP,PyData.eqv,eqD];exact eqv_L n m l k f g
 |n,m,.exc _,_,f,_=>by simp only[dOk] at f;cases f
 |n,m,d,.exc _,_,g=>by simp only[dOk] at g;cases g
 |n,m,.obj _ _,_,f,_=>by simp only[dOk] at f;cases f
 |n,m,d,.obj _ _,_,g=>by simp only[dOk] at g;cases g
 |n,m,.non,.non,_,_=>by simp only[toP,PyData.eqv,eqD]
 |n,m,.non,.bl _,_,_=>by simp only[toP,PyData.eqv,eqD]
 |n,m,.non,.int _,_,_=>by simp only[toP,PyData.eqv,eqD]
 |n,m,.non,.tup _,_,_=>by simp only[toP,PyData.eqv,eqD]
 |n,m,.non,.lst _,_,_=>by simp only[toP,PyData.eqv,eqD]
 |n,m,.bl _,.non,_,_=>by simp only[toP,PyData.eqv,eqD]
 |n,m,.bl _,.bl _,_,_=>by simp only[toP,PyData.eqv,eqD]
 |n,m,.bl _,.int _,_,_=>by simp only[toP,PyData.eqv,eqD]
 |n,m,.bl _,.tup _,_,_=>by simp only[toP,PyData.eqv,eqD]
 |n,m,.bl _,.lst _,_,_=>by simp only[toP,PyData.eqv,eqD]
 |n,m,.int _,.non,_,_=>by simp only[toP,PyData.eqv,eqD]
 |n,m,.int _,.bl _,_,_=>by simp only[toP,PyData.eqv,eqD]
 |n,m,.int _,.int _,_,_=>by simp only[toP,PyData.eqv,eqD]
 |n,m,.int _,.tup _,_,_=>by simp only[toP,PyData.eqv,eqD]
 |n,m,.int _,.lst _,_,_=>by simp only[toP,PyData.eqv,eqD]
 |n,m,.tup _,.non,_,_=>by simp only[toP,PyData.eqv,eqD]
 |n,m,.tup _,.bl _,_,_=>by simp only[toP,PyData.eqv,eqD]
 |n,m,.tup _,.int _,_,_=>by simp only[toP,PyData.eqv,eqD]
 |n,m,.tup _,.lst _,_,_=>by simp only[toP,PyData.eqv,eqD]
 |n,m,.lst _,.non,_,_=>by simp only[toP,PyData.eqv,eqD]
 |n,m,.lst _,.bl _,_,_=>by simp only[toP,PyData.eqv,eqD]
 |n,m,.lst _,.int _,_,_=>by simp only[toP,PyData.eqv,eqD]
 |n,m,.lst _,.tup _,_,_=>by simp only[toP,PyData.eqv,eqD]
theorem eqv_L:∀(n m:Nat) (l k:List D),dOkL n l=true->dOkL m k=true->PyData.eqvAll (toPs l) (toPs k)=eqL l k
 |n,m,[],[],_,_=>by simp only[toPs,PyData.eqvAll,eqL]
 |n,m,d::l,e::k,f,g=>by
  simp only[dOkL,Zk] at f g;simp only[toPs,PyData.eqvAll,eqL];rw[zqm n m d e f.1 g.1,eqv_L n m l k f.2 g.2]
 |n,m,[],_::_,_,_=>by simp only[toPs,PyData.eqvAll,eqL]
 |n,m,_::_,[],_,_=>by simp only[toPs,PyData.eqvAll,eqL]
end
mutual
theorem zuq:∀(n:Nat) (d:D),dOk n d=true->(toP d).canLay0=true/\(toP d).depth<=n
 |_,.non,_=>by simp[toP,PyData.canLay0,PyData.depth]
 |_,.bl _,_=>by simp[toP,PyData.canLay0,PyData.depth]
 |_,.int _,_=>by simp[toP,PyData.canLay0,PyData.depth]
 |0,.tup _,h=>by simp only[dOk] at h;cases h
 |n+1,.tup l,h=>by
  simp only[dOk] at h;obtain⟨a,b⟩:=lay_L n l h
  simp only[toP,PyData.canLay0,PyData.depth];exact⟨a,by omega⟩
 |0,.lst _,h=>by simp only[dOk] at h;cases h
 |n+1,.lst l,h=>by
  simp only[dOk] at h;obtain⟨a,b⟩:=lay_L n l h
  simp only[toP,PyData.canLay0,PyData.depth];exact⟨a,by omega⟩
 |_,.exc _,h=>by simp only[dOk] at h;cases h
 |_,.obj _ _,h=>by simp only[dOk] at h;cases h
theorem lay_L:∀(n:Nat) (l:List D),dOkL n l=true->PyData.canLayAll0 (toPs l)=true/\PyData.depthAll (toPs l)<=n
 |_,[],_=>by simp[toPs,PyData.canLayAll0,PyData.depthAll]
 |n,d::l,h=>by
  simp only[dOkL,Zk] at h;obtain⟨a,b⟩:=zuq n d h.1
  obtain⟨c,e⟩:=lay_L n l h.2
  simp only[toPs,PyData.canLayAll0,PyData.depthAll,Zk];exact⟨⟨a,c⟩,by omega⟩
end
section
variable{X:Cx}{pins:List (Addr×Obj)}{σ:L2.St}{H F:Hp}{s:Shared}
mutual
theorem zbt(I:Inv X pins σ H s)(g:Same F H):∀(n:Nat) (d:D){v:V}{u:Value},dOk n d=true->Den X.K F d v->RelV v u->∃m,Reads s.heap u (toP d) m
 |_,.non,v,u,_,h,r=>by rw[h.non] at r;cases(show u=Value.none from r);exact⟨_,.none⟩
 |_,.bl b,v,u,_,h,r=>by rw[h.bl] at r;cases(show u=Value.bool b from r);exact⟨_,.bool b⟩
 |_,.int i,v,u,_,h,r=>by
  rw[h.int] at r;obtain⟨t,e⟩:=(show ∃t,u=Value.int i t from r)
  subst e;exact⟨_,.int i t⟩
 |0,.tup _,_,_,h,_,_=>by simp only[dOk] at h;cases h
 |n+1,.tup l,v,u,f,h,r=>by
  simp only[dOk] at f;obtain⟨a,G,e,p,q⟩:=h.tup
  subst e;cases(show u=Value.ref a from r)
  obtain⟨w,z,⟨o,A,B,k,C⟩,_⟩:=I.tuple (Same.tup g p)
  obtain⟨m,E⟩:=reads_L I g n l f q z
  exact⟨_,.tuple A B C (by simpa using E)⟩
 |0,.lst _,_,_,h,_,_=>by simp only[dOk] at h;cases h
 |n+1,.lst l,v,u,f,h,r=>by
  simp only[dOk] at f;obtain⟨a,G,e,p,q⟩:=h.lst
  subst e;cases(show u=Value.ref a from r)
  obtain⟨w,z,⟨o,k,A,B,C⟩,_⟩:=I.list (g.seq p)
  obtain⟨m,E⟩:=reads_L I g n l f q z
  exact⟨_,.list A B C.2 (by simpa using E)⟩
 |_,.exc _,_,_,h,_,_=>by simp only[dOk] at h;cases h
 |_,.obj _ _,_,_,h,_,_=>by simp only[dOk] at h;cases h
theorem reads_L(I:Inv X pins σ H s)(o:Same F H):∀(n:Nat) (l:List D){f:List V}{g:List Value},dOkL n l=true->DenL X.K F l f->Vals f g->∃p,ReadsAll s.heap g (toPs l) p
 |_,[],f,g,_,h,r=>by
  rw[h.inv_nil] at r;cases r;exact⟨_,.nil⟩
 |n,d::l,f,g,m,h,r=>by
  simp only[dOkL,Zk] at m;obtain⟨v,B,e,q,t⟩:=h.inv_cons
  subst e;cases r with
  |cons u w=>
   obtain⟨p,z⟩:=zbt I o n d m.1 q u
   obtain⟨C,A⟩:=reads_L I o n l m.2 t w
   exact⟨_,.cons z A⟩
end
end
section
variable{X:Cx}
def zhd{d:D}(h:dOk 50 d=true):SeqAt.shaped (toP d)=true:=by
 obtain⟨a,b⟩:=zuq 50 d h
 unfold SeqAt.shaped;rw[a,Bool.true_and];exact decide_eq_true vB
def ydh(K:vE)(x y:D)(k:Bool):R2:=λv u H Q=>∃F,Same F H/\Den K F x v/\Den K F y u/\Q (.bl k) H
def yae{x y:D}(g:X.A.units+64<cLine)(d:dOk 50 x=true)(e:dOk 50 y=true):zcr X .Eq x y (eqD x y):=by
 refine⟨ydh X.K x y (eqD x y),?_,λH F v u Q s h l q=>⟨F,s,h,l,q⟩⟩
 intro pins s w H v u z B Q I m n ⟨F,f,o,p,q⟩;obtain⟨C,r⟩:=zbt I f 50 x d o m
 obtain⟨E,t⟩:=zbt I f 50 y e p n
 refine eq_dataH r t (zhd d) (zhd e) g ?_;rw[zqm 50 50 x y d e];exact⟨.bl _,H,I,rfl,q⟩
def yad{x y:D}(g:X.A.units+64<cLine)(d:dOk 50 x=true)(e:dOk 50 y=true):zcr X .NotEq x y (!eqD x y):=by
 refine⟨ydh X.K x y (!eqD x y),?_,λH F v u Q s h l q=>⟨F,s,h,l,q⟩⟩
 intro pins s w H v u z B Q I m n ⟨F,f,o,p,q⟩;obtain⟨C,r⟩:=zbt I f 50 x d o m
 obtain⟨E,t⟩:=zbt I f 50 y e p n
 refine ne_dataH r t (zhd d) (zhd e) g ?_;rw[zqm 50 50 x y d e];exact⟨.bl _,H,I,rfl,q⟩
theorem yoz{x:D}(e:dOk 50 x=true):∀(l:List D),dOkL 49 l=true->((toPs l).any λy=>PyData.eqv y (toP x))=l.any λy=>eqD y x
 |[],_=>rfl
 |d::l,h=>by
  simp only[dOkL,Zk] at h;simp only[toPs,List.any_cons];rw[zqm 49 50 d x h.1 e,yoz e l h.2]
def yod{x:D}{l:List D}(z:X.A.units+64<cLine)(d:dOk 50 x=true)(e:dOkL 49 l=true):zcr X .In x (.lst l) (l.any λy=>eqD y x):=by
 refine⟨ydh X.K x (.lst l) _,?_,λH F v u Q s h m q=>⟨F,s,h,m,q⟩⟩
 intro pins s B H v u C E Q I n o ⟨F,f,p,r,q⟩;obtain⟨G,t⟩:=zbt I f 50 x d p n
 obtain⟨J,g⟩:=zbt I f 50 (.lst l) (by simp only[dOk];exact e) r o
 simp only[toP] at g;obtain⟨a,b⟩:=zuq 50 x d
 obtain⟨w,L⟩:=lay_L 49 l e
 refine SeqAt.in_list_reads g t w a (by have:=Nat.min_le_right (PyData.depthAll (toPs l)) (toP x).depth;omega) ?_;rw[yoz d l e];exact⟨.bl _,H,I,rfl,q⟩
def yfq{x:D}{l:List D}(z:X.A.units+64<cLine)(d:dOk 50 x=true)(e:dOkL 49 l=true):zcr X .NotIn x (.lst l) (!(l.any λy=>eqD y x)):=by
 refine⟨ydh X.K x (.lst l) _,?_,λH F v u Q s h m q=>⟨F,s,h,m,q⟩⟩
 intro pins s B H v u C E Q I n o ⟨F,f,p,r,q⟩;obtain⟨G,t⟩:=zbt I f 50 x d p n
 obtain⟨J,g⟩:=zbt I f 50 (.lst l) (by simp only[dOk];exact e) r o
 simp only[toP] at g;obtain⟨a,b⟩:=zuq 50 x d
 obtain⟨w,L⟩:=lay_L 49 l e
 refine SeqAt.notIn_list_reads g t w a (by have:=Nat.min_le_right (PyData.depthAll (toPs l)) (toP x).depth;omega) ?_;rw[yoz d l e];exact⟨.bl _,H,I,rfl,q⟩
end
open PySem L2 PyProof.Rows
def cloF(d:List (Str×Addr)):List (Str×NameKind)->List (Str×Addr)->List (Str×Addr)
 |[],e=>e
 |(n,k)::r,e=>cloF d r (if (k == NameKind.free)=true then(n,(d.lookup n).getD 0)::e else e)
def yif{scope:Scope}{env:Env}(h:∀y∈scope.names,y.2=.free->∃c,env.cells.lookup y.1=some c):closureFor scope env=pure (cloF env.cells scope.names []):=by
 have key:∀(l:List (Str×NameKind)) (d:List (Str×Addr)),(∀y∈l,y.2=.free->∃c,env.cells.lookup y.1=some c) ->
   (forIn l d (λx d=>if (x.2 == NameKind.free)=true then do let a <-cellOf env x.1;pure (ForInStep.yield ((x.1,a)::d)) else pure (ForInStep.yield d)):Sem (List (Str×Addr)))=pure (cloF env.cells l d):=by
  intro l;induction l with
  |nil=>intro d _;rfl
  |cons y l o=>
   intro d h;rw[K7];obtain⟨n,k⟩:=y
   have g:=λd=>o d λz p=>h z (Y0 _ p)
   by_cases e:(k == NameKind.free)=true
   ·obtain⟨c,m⟩:=h (n,k) Wu (by cases k<;>first|rfl|cases e)
    have f:cellOf env n=pure c:=by unfold cellOf;rw[m]
    simp only[e,if_true,f,pure_bind];rw[g];simp only[cloF,e,if_true,m,Kz]
   ·simp only[e,if_false,pure_bind,Wf];rw[g];simp only[cloF,e,if_false,Wf]
 unfold closureFor;have:=key scope.names [] h
 simp only[bind_pure];first|exact this|(refine Eq.trans ?_ this;rfl)|(simp at this |-;exact this)
theorem zhk{d:List (Str×Addr)}:∀(l:List (Str×NameKind)) (f:List (Str×Addr)),(∀y∈l,y.2=.free->∃c,d.lookup y.1=some c)->(∀p∈f,d.lookup p.1=some p.2)->∀p∈cloF d l f,d.lookup p.1=some p.2
 |[],f,_,h,p,g=>h p g
 |(n,k)::r,f,o,h,p,g=>by
  unfold cloF at g;refine zhk r _ (λz s=>o z (Y0 _ s)) (λq m=>?_) p g;by_cases e:(k == NameKind.free)=true
  ·rw[if_pos e] at m;rcases Zg.mp m with z|z
   ·subst z;obtain⟨c,t⟩:=o (n,k) Wu (by cases k<;>first|rfl|cases e)
    simp only[t,Kz]
   ·exact h q z
  ·rw[if_neg e] at m;exact h q m
theorem zok{d:List (Str×Addr)}:∀(l:List (Str×NameKind)) (f:List (Str×Addr)) (p:Str×Addr),p∈f->p∈cloF d l f
 |[],_,_,h=>h
 |(n,k)::r,f,p,h=>by
  unfold cloF;refine zok r _ p ?_;by_cases e:(k == NameKind.free)=true
  ·rw[if_pos e];exact Y0 _ h
  ·rw[if_neg e];exact h
theorem zmb{d:List (Str×Addr)}:∀(l:List (Str×NameKind)) (e:List (Str×Addr)) (x:Str),(x,NameKind.free)∈l->∃c,(x,c)∈cloF d l e
 |(n,k)::r,e,x,h=>by
  unfold cloF;rcases Zg.mp h with z|z
  ·cases z;have f:(NameKind.free == NameKind.free)=true:=rfl;simp only[f,if_true];exact⟨_,zok r _ _ Wu⟩
  ·exact zmb r _ x z
theorem zbo{d:Type}:∀{l:List (Str×d)}{x:Str}{c:d},l.lookup x=some c->(x,c)∈l
 |[],_,_,h=>by cases h
 |(n,a)::r,x,c,h=>by
  rw[Qv] at h;cases q:(x == n) with
  |true=>rw[q] at h;cases h;rw[eq_of_beq q];exact Wu
  |false=>rw[q] at h;exact Y0 _ (zbo h)
theorem zfr{d:Type}:∀{l:List (Str×d)}{x:Str}{c:d},(x,c)∈l->∃e,l.lookup x=some e
 |(n,a)::r,x,c,h=>by
  rw[Qv];cases q:(x == n) with
  |true=>exact⟨_,rfl⟩
  |false=>
   rcases Zg.mp h with z|z
   ·cases z;rw[beq_self_eq_true] at q;cases q
   ·exact zfr z
open PySem L2 PyProof.Rows
def zec{scope:Scope}{env:Env}{x:Str}:(relabel scope env).names.lookup x=(scope.names.lookup x).map λk=>if (k == NameKind.free && env.scope.kind == .function && env.kindOf x == some .cell)=true then NameKind.cell else k:=by
 unfold relabel;simp only
 generalize scope.names=l;induction l with
 |nil=>rfl
 |cons y l e=>
  obtain⟨n,k⟩:=y
  rw[Zx];by_cases d:(k == NameKind.free && env.scope.kind == .function && env.kindOf n == some .cell)=true
  ·simp only[d,if_true];rw[Qv,Qv];cases q:(x == n) with
   |true=>have:=eq_of_beq q;subst this;simp only[W4];rw[if_pos d]
   |false=>simpa using e
  ·simp only[d];rw[if_neg vC,Qv,Qv];cases q:(x == n) with
   |true=>have:=eq_of_beq q;subst this;simp only[W4];rw[if_neg d]
   |false=>simpa using e
def blk(X:Cx)(scope:Scope)(d:List (Str×Addr))(C:Addr)(N':List Str)(s₀:Shared)(H₀:Hp)(ex:List Addr):Cx:=
 {X with N:=N',s₀:=s₀,H₀:=H₀,env:=compEnvC scope d C X.env,outer:=X.stack,stack:=X.stack,ex:=ex,fn:=λ_=>false,pn:=[],xe:=λ_ _=>False}
section
variable{X:Cx}{pins:List (Addr×Obj)}{σ:L2.St}{H:Hp}{s:Shared}{scope:Scope}{C:Addr}{N':List Str}{fp:List Addr}
def blk_ok(I:Inv X pins σ H s)(u:scope.kind=.function)(f:∀y∈scope.names,y.2 ≠ .cell)(g:∀y∈scope.names,y.2=.free->∃c,X.env.cells.lookup y.1=some c)
 (t:s.heap.objs.size<=C)(d:∀b∈fp,FpOk X pins H b)(r:∀b∈fp,∃o,s.heap.get? b=some o):(blk X scope (cloF X.env.cells scope.names []) C N' s H fp).Ok:=by
 have l:∀{x c},(cloF X.env.cells scope.names []).lookup x=some c->X.env.cells.lookup x=some c:=λh=>zhk scope.names [] g (λp v=>nomatch v) _ (zbo h)
 refine⟨I.ok.mod,u,I.ok.glob,I.ok.blt,t,λx y c w A=>I.ok.inj x y c (l w) (l A),λx h=>?_,λx c h=>absurd h (by simp[blk]),I.ok.hd,I.ok.frames,.inl rfl,λb m=>?_,I.bs,Wc I.ok.bsz I.sz,λb o e m=>?_,λb m z=>?_,I.stack,I.stkFree⟩
 ·have n:(relabel scope X.env).names.lookup x=some .cell\/(relabel scope X.env).names.lookup x=some .free:=h;rw[zec] at n;have:scope.names.lookup x=some .free:=by
   cases q:scope.names.lookup x with
   |none=>rw[q] at n;rcases n with z|z<;>cases z
   |some k=>
    rw[q] at n;have B:=zbo q;cases k with
    |free=>rfl
    |cell=>exact absurd rfl (f _ B)
    |_=>rcases n with z|z<;>simp at z
  obtain⟨c,D⟩:=zmb scope.names [] x (zbo this)
  exact zfr D
 ·obtain⟨o,e⟩:=r b m
  refine⟨?_,λx c h=>(d b m).2.2.2.2.1 x c (l h)⟩
  exact Yi (Zf (Zo e) t)
 ·rcases(d b m).2.2.2.1 with z|z
  ·exact I.ok.noex b o e z
  ·exact absurd (Zf (Zo e) (Wc I.ok.bsz z)) (Wq _)
 ·rcases Zg.mp (I.stkSub b z) with e|e
  ·exact(d b m).2.1 e
  ·exact(d b m).2.2.1 e
def yop{s':Shared}{t:Heap}{t':Nat}{σ':L2.St}(I:Inv X pins σ H s)(O:scope.kind=.function)(l:∀y∈scope.names,y.2 ≠ .cell)(d:∀y∈scope.names,y.2=.free->∃c,X.env.cells.lookup y.1=some c)
 (L:C=s.heap.objs.size)(w:∀b∈fp,FpOk X pins H b)(A:∀b∈fp,∃o,s.heap.get? b=some o){m:Str->Option Value}(B:t.Ns C m)(f:∀b o,s.heap.get? b=some o->t.get? b=some o)
 (P:σ'.length=N'.length)
 (Q:∀(i:Nat) (x:Str) (v:V),N'[i]? = some x->σ'[i]? = some (some v)->scope.names.lookup x=some .free/\X.env.kindOf x=some .cell/\∃j:Nat,X.N[j]? = some x/\σ[j]? = some (some v)):
  Inv (blk X scope (cloF X.env.cells scope.names []) C N' s H fp) [] σ' H {s with heap:=t,toks:=t'}:=by
 have n:∀{x c},(cloF X.env.cells scope.names []).lookup x=some c->X.env.cells.lookup x=some c:=λh=>zhk scope.names [] d (λp D=>nomatch D) _ (zbo h)
 refine⟨blk_ok I O l d (Gf L.symm) w A,rfl,I.bare,Un.kept f,⟨m,B,λi x v R S Z=>?_⟩,λx c e=>?_,?_,λx c e=>I.freeC x c (n e),λp D=>?_,I.hok.kept f,P⟩
 ·obtain⟨M,E,j,T,U⟩:=Q i x v R S
  obtain⟨m0,W,F⟩:=I.loc
  obtain⟨u,r,lk⟩:=F j x v T U (.inr (.inl E))
  refine⟨u,r,.inr ⟨.inl ?_,?_⟩⟩
  ·show(relabel scope X.env).names.lookup x=some .cell;rw[zec,M];have:(X.env.scope.kind == ScopeKind.function)=true:=by rw[I.ok.kind];rfl
   simp[this,E]
  ·rcases lk with⟨z,_⟩|⟨_,c,Y,g⟩
   ·rw[E] at z;cases z
   ·obtain⟨c',G⟩:=zmb scope.names [] x (zbo M)
    obtain⟨c2,q⟩:=zfr G
    have:=n q
    rw[Y] at this;cases this;obtain⟨o,J,K⟩:=g
    exact⟨c,q,o,f _ _ J,K⟩
 ·obtain⟨v,o,J,K⟩:=I.cell x c (n e)
  exact⟨v,o,f _ _ J,K⟩
 ·show H C=none;rw[L];exact I.hok.fresh (Zl _)
 ·exact nomatch D
def yoq{h:List (Str×Addr)}{σ':L2.St}{f:Hp}{g:Shared}{pl:List (Addr×Obj)}(I:Inv X pins σ H s)(d:∀b∈fp,FpOk X pins H b)(J:Inv (blk X scope h C N' s H fp) pl σ' f g):Inv X pins σ f g:=
 I.call' (ch:=fp) J.os J.base J.hok J.bare λb e=>⟨(d b e).2.2.2.1,(d b e).2.1,(d b e).2.2.2.2.1,(d b e).2.2.2.2.2⟩
end
open PySem L2 PyProof.Rows
section
variable{K:vE}{H0 Fc F H:Hp}{σ:L2.St}{ρ:Rho}
def ER.mutF(R:ER K H0 Fc F H σ ρ){a:Addr}{o:HO}(d:F a=none)(f:H0 a=none):ER K H0 Fc F (upd H a o) σ ρ:=
 ⟨λb u e=>by rw[Bt (λz=>by subst z;rw[d] at e;cases e)];exact R.sub b u e,λb u e=>by rw[Bt (λz=>by subst z;rw[f] at e;cases e)];exact R.same b u e,R.base,R.new,R.env⟩
def ER.here(R:ER K H0 Fc F H σ ρ):ER K H F F H σ ρ:=⟨R.sub,Same.refl _,Same.refl _,λa o e=>.inl e,R.env⟩
def ER.there{f g:Hp}{σ':L2.St}{d:Rho}(R:ER K H0 Fc F H σ ρ)(R':ER K H F f g σ' d):ER K H0 Fc f g σ' d:=
 ⟨R'.sub,R.same.trans R'.same,R.base.trans R'.base,λa o e=>(R'.new a o e).elim (R.new a o) λz=>.inr (R.same.free z),R'.env⟩
def ER.fewer{f:Rho}(R:ER K H0 Fc F H σ ρ)(h:∀(i:Nat) d,f[i]? = some (some d)->ρ[i]? = some (some d)):ER K H0 Fc F H σ f:=⟨R.sub,R.same,R.base,R.new,λi d e=>R.env i d (h i d e)⟩
end
def DIe(X:Cx)(o e:Expr)(g:Rho)(d:List D):Prop:=∀h l,PI X o e (λm H R=>∃F,ER X.K h l F H m g/\∀J n f,Same F f->ER X.K h l f n m g->Walks X.K f J d->R J n)
def DGe(X:Cx)(m:Expr)(d:D)(n f:Rho):Prop:=∀g h,PG X m (λv l H Q=>l.length=X.N.length/\∃F,ER X.K g h F H l n/\Den X.K F d v/\∀e,e.length=X.N.length->ER X.K g h F H e f->Q e H)
def zcp(f:D->Option (Option D)):List D->Option (List D)
 |[]=>some []
 |d::l=>match f d with
  |none=>none
  |some none=>zcp f l
  |some (some e)=>(zcp f l).map λr=>e::r
def DTs(X:Cx)(d:List Expr)(e:Rho)(k:Bool):Prop:=(d=[]/\k=true)\/∃c,d=[c]/\DT X c e k
section
variable{X:Cx}{pins:List (Addr×Obj)}{σ:L2.St}{H1:Hp}{s2:Shared}{tg elt iter:Expr}{ifs:List Expr}{scope:Scope}{pos:Pos}{fp:List Addr}{it:Addr}{tn:Nat->Heap->Prop}{J:It}{N':List Str}{items res:List D}{f:D->Option (Option D)}{ρ0:Rho}
def CInv(X:Cx)(scope:Scope)(C:Addr)(N':List Str)(m:Shared)(H1:Hp)(D:Addr)(fp:List Addr)(tn:Nat->Heap->Prop)(items:List DL.D)(o p q:Hp)(ρ0:Rho)(f:DL.D->Option (Option DL.D))(res:List DL.D)(n:Nat)(h:Shared):Prop:=
 ∃i d e g l done rest,Inv (blk X scope (cloF X.env.cells scope.names []) C N' m (upd H1 D (.lst [])) fp) [] d e h/\tn i h.heap/\(∀b∈fp,e b=none)/\n=items.length+1-i/\i<=items.length /\
   ER X.K o p g e d ρ0/\Same q g/\g D=none/\e D=some (.lst l)/\DenL X.K g done l/\zcp f (items.drop i)=some rest/\done++rest=res/\done.length<=i
def yab{Z Fc F1:Hp}{ρ:Rho}{σ':L2.St}{RR:Value->Addr->Result->Shared->Prop}{E:Value->Shared->Prop}(I:Inv X pins σ H1 s2)(a0:X.calm=true)(T:Turn X.prog X.w X.K tg J fp it tn)(h0:tn 0 s2.heap)(ak:∀b∈fp,FpOk X pins H1 b)
 (hk:scope.kind=.function)(aJ:∀y∈scope.names,y.2 ≠ .cell)(am:∀y∈scope.names,y.2=.free->∃c,X.env.cells.lookup y.1=some c)
 (R1:ER X.K Z Fc F1 H1 σ ρ)(hl:σ'.length=N'.length)(b1:∀(i:Nat) d,ρ0[i]? = some (some d)->∃v,σ'[i]? = some (some v)/\Den X.K F1 d v)
 (hv:∀(i:Nat) (x:Str) (v:V),N'[i]? = some x->σ'[i]? = some (some v)->scope.names.lookup x=some .free/\X.env.kindOf x=some .cell/\∃j:Nat,X.N[j]? = some x/\σ[j]? = some (some v))
 (wk:Walks X.K F1 J items)(b2:items.length<=sizeLine)(au:zcp f items=some res)
 (av:∀(C:Addr) (s₀:Shared) (H₀:Hp) (d:D) (o:Option D),d∈items->f d=some o->∃G,DGe (blk X scope (cloF X.env.cells scope.names []) C N' s₀ H₀ fp) tg d ρ0 G/\(∀(i:Nat) d,ρ0[i]? = some (some d)->G[i]? = some (some d)) /\
   (match o with|none=>DTs (blk X scope (cloF X.env.cells scope.names []) C N' s₀ H₀ fp) ifs G false|some e=>DTs (blk X scope (cloF X.env.cells scope.names []) C N' s₀ H₀ fp) ifs G true/\DF (blk X scope (cloF X.env.cells scope.names []) C N' s₀ H₀ fp) elt G e))
 (aw:∀(D C:Addr) (s5:Shared) (H' F':Hp) (ys:List V) (m:Str->Option Value),Inv X pins σ H' s5->s5.heap.Ns C m->H' C=none->C≠X.env.locals->X.s₀.heap.objs.size<=C->(∀x c,X.env.cells.lookup x=some c->c≠C)->(∀p∈X.pn++pins,p.1≠C) ->
   Same F1 F'->ER X.K Z Fc F' H' σ ρ->F' D=none->Z D=none->H' D=some (.lst ys)->DenL X.K F' res ys->RR (.ref D) C (.ok .next) s5)
 {D C:Addr}{O:Shared}{h4:Heap}{tk:Nat}(I3:Inv X pins σ (upd H1 D (.lst [])) O)(aK:∀b∈fp,∃o,O.heap.get? b=some o)(af:∀b∈fp,FpOk X pins (upd H1 D (.lst [])) b)(hC:O.heap.objs.size=C)(J4:Inv (blk X scope (cloF X.env.cells scope.names []) C N' O (upd H1 D (.lst [])) fp) [] σ' (upd H1 D (.lst [])) {O with heap:=h4,toks:=tk})(aL:tn 0 h4)
 (CX:C≠X.env.locals/\X.s₀.heap.objs.size<=C/\(∀x c,X.env.cells.lookup x=some c->c≠C)/\(∀p∈X.pn++pins,p.1≠C))(R4:ER X.K Z Fc F1 (upd H1 D (.lst [])) σ' ρ0)(aM:F1 D=none)(ax:Z D=none):
  codeAny (model X.prog X.w) X.A (.compLoop (.ListComp elt [⟨tg,iter,ifs,0⟩] scope pos) 0 (.ref it) (.ref D) (compEnvC scope (cloF X.env.cells scope.names []) C X.env)) (RR (.ref D) C) {O with heap:=h4,toks:=tk}:=by
 refine codeAny_loop rfl (CInv X scope C N' O H1 D fp tn items Z Fc F1 ρ0 f res) ?_ (items.length+1)
  ⟨0,σ',_,F1,[],[],res,J4,aL,λb W=>(af b W).1,rfl,Yj _,R4,Same.refl _,aM,Bv,DenL.nil,au,rfl,Yj _⟩
 rintro n s5 ⟨i,a7,Ha,Fa,ys,done,rest,J5,ay,az,rfl,hi,R5,P,a1,a8,a9,H,aa,b3⟩
 show wpAny _ X.A ((compTurn (.ListComp elt [⟨tg,iter,ifs,0⟩] scope pos) 0 (.ref it) (.ref D) (compEnvC scope (cloF X.env.cells scope.names []) C X.env)).onRaise (λx=>do noteFrame x (compEnvC scope (cloF X.env.cells scope.names []) C X.env);theTreesLotGoes x)) _ _ s5;refine wpAny_noted ?_;rw[compTurn_list];have fx:∀{Hx:Hp},(∀b∈fp,Hx b=none)->∀b∈fp,FpOk (blk X scope (cloF X.env.cells scope.names []) C N' O (upd H1 D (.lst [])) fp) [] Hx b:=λhn b W=>by
  refine⟨hn b W,?_,?_,.inl W,?_,λp hp=>nomatch hp⟩
  ·obtain⟨o,e⟩:=aK b W
   show b≠C;rw[<-hC];exact Yi (Zo e)
  ·intro z;rcases Zg.mp (I.stkSub b z) with e|e
   ·exact(ak b W).2.1 e
   ·exact(ak b W).2.2.1 e
  ·intro x c h;exact(ak b W).2.2.2.2.1 x c (zhk scope.names [] am (λp hp=>nomatch hp) _ (zbo h))
 have ff:∀{α:Type}{t:Sem α}{Q:α->Shared->Prop}{E':Value->Shared->Prop}{s:Shared},wpAny (model X.prog X.w) X.A t Q (λ_ _=>False) s->wpAny (model X.prog X.w) X.A t Q E' s:=λh=>Uq h (λ_ _ q=>q) λ_ _ z=>z.elim
 have aA:=wk i Ha (P.trans R5.sub);refine Zd (Vd (Zd ?_));by_cases ab:i<items.length
 ·have hd:items[i]? = some items[i]:=Zi ab;rw[Jk ab] at H;obtain⟨go,yl⟩:=aA.1 _ hd
  refine ff (thn (T.item (blk X scope (cloF X.env.cells scope.names []) C N' O (upd H1 D (.lst [])) fp) rfl rfl rfl a0 i [] s5 a7 Ha (λ_ _=>False) J5 (fx az) ay go) λr s6 ⟨u,hr,h6⟩=>?_);subst hr;refine Zd (ff (thn h6 λ_ s7 ⟨x,H7,J7,r7,y7,an,aN⟩=>?_));obtain⟨R,ae,R7,q7,aB,aC⟩:∃R,Same Fa R/\ER X.K Z Fc R H7 a7 ρ0/\Den X.K R items[i] x/\H7 D=some (.lst ys)/\R D=none:=by
   rcases yl x H7 y7 with⟨e,q⟩|⟨p,xs,ds,hp,e,ex,ed,q⟩
   ·subst e;exact⟨Fa,Same.refl _,R5,q.mono P,a8,a1⟩
   ·subst e ex;obtain⟨R8,s8⟩:=R5.lay (.tup xs) hp
    have aD:D≠p:=λz=>by subst z;rw[a8] at hp;cases hp
    refine⟨_,s8,R8,?_,by rw[Bt aD];exact a8,by rw[Bt aD];exact a1⟩
    rw[ed];exact Den.tup_mk (SqT.of Bv) ((q.mono P).mono s8)
  have J8:=J7.pinned (fx aN) (T.obj _ _ an);have aE:∀{s9:Shared}{B:L2.St}{S F9:Hp}{zs:List V}{more left:List DL.D},Inv (blk X scope (cloF X.env.cells scope.names []) C N' O (upd H1 D (.lst [])) fp) ([]++zkh fp s7.heap) B S s9->ER X.K Z Fc F9 S B ρ0->Same F1 F9->F9 D=none->S D=some (.lst zs)->DenL X.K F9 more zs ->
    zcp f (items.drop (i+1))=some left->more++left=res->more.length<=i+1 ->
    ∃m,m<items.length+1-i/\CInv X scope C N' O H1 D fp tn items Z Fc F1 ρ0 f res m s9:=by
   intro s9 B S F9 zs more left J9 R9 aO aP aQ aR aS aT aU;refine⟨items.length+1-(i+1),by omega,i+1,B,S,F9,zs,more,left,J9.unpinned,?_,λb W=>?_,rfl,ab,R9,aO,aP,aQ,aR,aS,aT,aU⟩
   ·exact T.keep _ _ _ an λb W o e=>(J9.pin (b,o) (Ym _ (Ym _ (zdq W e)))).1
   ·obtain⟨o,e,_⟩:=T.obj _ _ an b W
    exact(J9.pin (b,o) (Ym _ (Ym _ (zdq W e)))).2.1
  unfold zcp at H;cases hf:f items[i] with
  |none=>rw[hf] at H;cases H
  |some o=>
   rw[hf] at H;obtain⟨G,hG,ag,hO⟩:=av C O (upd H1 D (.lst [])) items[i] o (Kk ab) hf
   refine Zd (ff (thn (hG Z Fc _ s7 a7 H7 x u (λB S=>S=H7/\ER X.K Z Fc R H7 B G) J8 r7 ⟨J7.len,R,R7,q7,λB b4 R9=>⟨rfl,R9⟩⟩) λ_ s8 ⟨B,S,J9,e9,R9⟩=>?_));subst e9;have a2:∀k,DTs (blk X scope (cloF X.env.cells scope.names []) C N' O (upd H1 D (.lst [])) fp) ifs G k ->
     wpAny (model X.prog X.w) X.A (forIn ifs true λc r=>if r=true then do let ok <-isTrue c (compEnvC scope (cloF X.env.cells scope.names []) C X.env) (eval c (compEnvC scope (cloF X.env.cells scope.names []) C X.env));pure (ForInStep.yield ok) else pure (ForInStep.yield r))
      (λok s'=>ok=k/\∃l g,Inv (blk X scope (cloF X.env.cells scope.names []) C N' O (upd H1 D (.lst [])) fp) ([]++zkh fp s7.heap) B l s'/\Same R g/\ER X.K S R g l B G) (λ_ _=>False) s8:=by
    intro k hk;rcases hk with⟨e1,e2⟩|⟨c,e1,hT⟩
    ·subst e1 e2;exact wpAny_tests_nil ⟨rfl,S,R,J9,Same.refl _,R9.here⟩
    ·subst e1;refine wpAny_tests_one (thn (hT S R _ s8 B S (λb l=>b=k/\∃g,Same R g/\ER X.K S R g l B G) J9 ⟨R,R9.here,λl g L F=>⟨rfl,g,L,F⟩⟩) λb s' ⟨l,a3,aV,g,L,F⟩=>⟨aV,l,g,a3,L,F⟩)
   have a4:∀{g l:Hp}{σ':L2.St}{aF:Rho},ER X.K S R g l σ' aF->l D=some (.lst ys)/\g D=none:=λ{g l σ' aF} F=>by
    refine⟨F.same D _ aB,?_⟩
    cases z:g D with
    |none=>rfl
    |some o=>
     rcases F.new D o z with w|w
     ·rw[aC] at w;cases w
     ·rw[aB] at w;cases w
   cases o with
   |none=>
    refine Zd (ff (thn (a2 false hO) λok s9 ⟨ao,l,g,a3,L,F⟩=>?_));subst ao;obtain⟨U,a5⟩:=a4 F
    refine Zs ⟨rfl,aE a3 ((R9.there F).fewer ag) ((P.trans ae).trans L) a5 U ((a9.mono ae).mono L) H aa vB⟩
   |some e=>
    obtain⟨hT,hE⟩:=hO
    obtain⟨left,ap,aq⟩:=Zb.mp H
    subst aq;refine Zd (ff (thn (a2 true hT) λok s9 ⟨ao,l,g,a3,L,F⟩=>?_));subst ao;obtain⟨U,a5⟩:=a4 F
    have ah:=R9.there F;rw[if_pos rfl];refine Zd (Zd (ff (thn (hE l g _ s9 B l (λv Y=>∃M,Same g M/\ER X.K l g M Y B G/\Den X.K M e v) a3 ⟨g,ah.here,λv Y M ar a6 as=>⟨M,ar,a6,as⟩⟩) λuv ar ⟨v,Y,aW,aX,M,ai,a6,as⟩=>?_)));have aG:Y D=some (.lst ys):=a6.same D _ U;have aj:M D=none:=by
     cases z:M D with
     |none=>rfl
     |some o=>
      rcases a6.new D o z with w|w
      ·rw[a5] at w;cases w
      ·rw[U] at w;cases w
    have b5:ys.length=done.length:=a9.length;have aH:=ah.there a6;refine Zd (ff (thn (zin _ ar B Y (.ref D) [v] (.ref D) [uv] (λ_ aI=>aI=upd Y D (.lst (ys++[v]))) aW rfl #v[aX] ⟨D,ys,v,rfl,rfl,aG,by omega,rfl⟩) λ_ b6 ⟨_,aI,aY,_,aZ⟩=>?_));subst aZ;refine Zs (Zs ⟨rfl,aE (zs:=ys++[v]) (more:=done++[e]) aY ((aH.mutF aj ax).fewer ag) (((P.trans ae).trans L).trans ai) aj Bv ((((a9.mono ae).mono L).mono ai).append (DenL.cons as DenL.nil)) ap (by rw[Bc];exact aa) (by rw[Z5,J0];omega)⟩)
 ·have e:i=items.length:=by omega
  subst e;rw[Bj] at H;cases H;rw[Qm] at aa;subst aa;refine ff (thn (T.done (blk X scope (cloF X.env.cells scope.names []) C N' O (upd H1 D (.lst [])) fp) rfl rfl rfl a0 _ [] s5 a7 Ha (λ_ _=>False) J5 (fx az) ay (aA.2 (Zl _))) λr s6 ⟨hr,J6⟩=>?_);subst hr;obtain⟨m,b0,_⟩:=J6.loc
  refine Zs (aw D C s6 Ha Fa ys m (yoq I3 af J6) b0 J6.free CX.1 CX.2.1 CX.2.2.1 CX.2.2.2 P ⟨R5.sub,R5.same,R5.base,R5.new,λj d e=>?_⟩ a1 ax a8 a9);obtain⟨v,g1,g2⟩:=R1.env j d e
  exact⟨v,g1,g2.mono P⟩
def yfo{u U t:Hp}{W:Rho}{σ':L2.St}{RR:Value->Addr->Result->Shared->Prop}{E:Value->Shared->Prop}(I:Inv X pins σ H1 s2)(s:X.calm=true)(T:Turn X.prog X.w X.K tg J fp it tn)(h0:tn 0 s2.heap)(Y:∀b∈fp,FpOk X pins H1 b)
 (Z:scope.kind=.function)(g:∀y∈scope.names,y.2 ≠ .cell)(l:∀y∈scope.names,y.2=.free->∃c,X.env.cells.lookup y.1=some c)
 (R1:ER X.K u U t H1 σ W)(hl:σ'.length=N'.length)(z:∀(i:Nat) d,ρ0[i]? = some (some d)->∃v,σ'[i]? = some (some v)/\Den X.K t d v)
 (hv:∀(i:Nat) (x:Str) (v:V),N'[i]? = some x->σ'[i]? = some (some v)->scope.names.lookup x=some .free/\X.env.kindOf x=some .cell/\∃j:Nat,X.N[j]? = some x/\σ[j]? = some (some v))
 (wk:Walks X.K t J items)(a0:items.length<=sizeLine)(B:zcp f items=some res)
 (F:∀(C:Addr) (s₀:Shared) (H₀:Hp) (d:D) (o:Option D),d∈items->f d=some o->∃n,DGe (blk X scope (cloF X.env.cells scope.names []) C N' s₀ H₀ fp) tg d ρ0 n/\(∀(i:Nat) d,ρ0[i]? = some (some d)->n[i]? = some (some d)) /\
   (match o with|none=>DTs (blk X scope (cloF X.env.cells scope.names []) C N' s₀ H₀ fp) ifs n false|some e=>DTs (blk X scope (cloF X.env.cells scope.names []) C N' s₀ H₀ fp) ifs n true/\DF (blk X scope (cloF X.env.cells scope.names []) C N' s₀ H₀ fp) elt n e))
 (G:∀(D C:Addr) (s5:Shared) (H' R:Hp) (ys:List V) (m:Str->Option Value),Inv X pins σ H' s5->s5.heap.Ns C m->H' C=none->C≠X.env.locals->X.s₀.heap.objs.size<=C->(∀x c,X.env.cells.lookup x=some c->c≠C)->(∀p∈X.pn++pins,p.1≠C) ->
   Same t R->ER X.K u U R H' σ W->R D=none->u D=none->H' D=some (.lst ys)->DenL X.K R res ys->RR (.ref D) C (.ok .next) s5)
 {D:Addr}{h:Shared}(H:Inv X pins σ (upd H1 D (.lst [])) h)(L:∀b∈fp,∃o,h.heap.get? b=some o)(q:∀b∈fp,FpOk X pins (upd H1 D (.lst [])) b)(a1:tn 0 h.heap)(S:ER X.K u U t (upd H1 D (.lst [])) σ W)(a2:t D=none)(a3:u D=none):
  wpAny (model X.prog X.w) X.A (newFunctionEnv scope X.env.globals (cloF X.env.cells scope.names []) [] X.env.qual none .none (some X.env)) (λr M=>
   codeAny (model X.prog X.w) X.A (.compStart (.ListComp elt [⟨tg,iter,ifs,0⟩] scope pos) 0 (.ref it) (.ref D) {r with scope:=relabel scope X.env}) (RR (.ref D) r.locals) M) E h:=by
 refine wpAny_newFunctionEnv g (by intro y hy;simp at hy) (λh4 O P=>?_) Z;have k4:∀b o,h.heap.get? b=some o->h4.get? b=some o:=λb o e=>P.extBut b o (Yi (Zo e)) (Ze _ e)
 have J4:=yop (t':=h.toks+([]:List (Str×Value)).length) (s':=h) (N':=N') H Z g l rfl q L O k4 hl hv;have Q:tn 0 h4:=T.keep 0 _ _ a1 λb hb o e=>k4 b o e
 have CX:h.heap.objs.size≠X.env.locals/\X.s₀.heap.objs.size<=h.heap.objs.size/\(∀x c,X.env.cells.lookup x=some c->c≠h.heap.objs.size)/\(∀p∈X.pn++pins,p.1≠h.heap.objs.size):=by
  obtain⟨_,b1,_,b3,b4,b5⟩:=H.fpOk (H':=upd H1 D (.lst [])) (b:=h.heap.objs.size) (Zl _) (H.hok.fresh (Zl _))
  exact⟨b1,H.sz,b4,b5⟩
 have loop:=yab (elt:=elt) (iter:=iter) (pos:=pos) (RR:=RR) (E:=E) I s T h0 Y Z g l R1 hl z hv wk a0 B F G H L q rfl J4 Q CX ⟨S.sub,S.same,S.base,S.new,z⟩ a2 a3;exact codeAny_compStart_list loop (T.self _ 0 _ _ _ Q loop)
def zkk{K:vE}(hK:K=X.K){P Fc L:Hp}{ρ:Rho}{σ':L2.St}{Q:Value->Addr->Result->Shared->Prop}{E:Value->Shared->Prop}(I:Inv X pins σ H1 s2)(n:X.calm=true)(T:Turn X.prog X.w X.K tg J fp it tn)(R:tn 0 s2.heap)(q:∀b∈fp,FpOk X pins H1 b)
 (hk:scope.kind=.function)(r:∀y∈scope.names,y.2 ≠ .cell)(s:∀y∈scope.names,y.2=.free->∃c,X.env.cells.lookup y.1=some c)
 (R1:ER X.K P Fc L H1 σ ρ)(hl:σ'.length=N'.length)(S:∀(i:Nat) d,ρ0[i]? = some (some d)->∃v,σ'[i]? = some (some v)/\Den X.K L d v)
 (hv:∀(i:Nat) (x:Str) (v:V),N'[i]? = some x->σ'[i]? = some (some v)->scope.names.lookup x=some .free/\X.env.kindOf x=some .cell/\∃j:Nat,X.N[j]? = some x/\σ[j]? = some (some v))
 (wk:Walks X.K L J items)(U:items.length<=sizeLine)(t:zcp f items=some res)
 (u:∀(C:Addr) (s₀:Shared) (H₀:Hp) (d:D) (o:Option D),d∈items->f d=some o->∃g,DGe (blk X scope (cloF X.env.cells scope.names []) C N' s₀ H₀ fp) tg d ρ0 g/\(∀(i:Nat) d,ρ0[i]? = some (some d)->g[i]? = some (some d)) /\
   (match o with|none=>DTs (blk X scope (cloF X.env.cells scope.names []) C N' s₀ H₀ fp) ifs g false|some e=>DTs (blk X scope (cloF X.env.cells scope.names []) C N' s₀ H₀ fp) ifs g true/\DF (blk X scope (cloF X.env.cells scope.names []) C N' s₀ H₀ fp) elt g e))
 (z:∀(D C:Addr) (Y:Shared) (M O:Hp) (ys:List V) (m:Str->Option Value),Inv X pins σ M Y->Y.heap.Ns C m->M C=none->C≠X.env.locals->X.s₀.heap.objs.size<=C->(∀x c,X.env.cells.lookup x=some c->c≠C)->(∀p∈X.pn++pins,p.1≠C) ->
   Same L O->ER X.K P Fc O M σ ρ->O D=none->P D=none->M D=some (.lst ys)->DenL X.K O res ys->Q (.ref D) C (.ok .next) Y):
  wpAny (model X.prog X.w) X.A (newList []) (λB F=>wpAny (model X.prog X.w) X.A (newFunctionEnv scope X.env.globals (cloF X.env.cells scope.names []) [] X.env.qual none .none (some X.env)) (λh G=>
   codeAny (model X.prog X.w) X.A (.compStart (.ListComp elt [⟨tg,iter,ifs,0⟩] scope pos) 0 (.ref it) B {h with scope:=relabel scope X.env}) (Q B h.locals) G) E F) E s2:=by
 have H:∀b∈fp,∃o,s2.heap.get? b=some o:=λb l=>by
  obtain⟨o,e,_⟩:=T.obj 0 _ R b l
  exact⟨o,e⟩
 have k3:∀b o,s2.heap.get? b=some o->(s2.heap.push {cls:=.type "list",data:=.seq ([]:List Value).toArray}).get? b=some o:=λb o e=>Ze _ e
 obtain⟨R3,Z,a0⟩:=R1.put (.lst []) (I.hok.fresh (Zl _))
 refine Jy ?_ (by show 0<=sizeLine;exact Yj _);exact yfo (elt:=elt) (iter:=iter) (pos:=pos) (RR:=Q) I n T R q hk r s R1 hl S hv wk U t u z (L2.Inv.lnew (its:=[]) (t':=s2.toks) I .nil (Yj _)) (λb l=>let ⟨o,e⟩:=H b l;⟨o,k3 b o e⟩)
  (λb l=>⟨by rw[Bt (by obtain⟨o,e⟩:=H b l;exact Yi (Zo e))];exact(q b l).1,(q b l).2⟩) (T.keep 0 _ _ R λb l o e=>k3 b o e) R3 Z a0
end
def blkR{d:Type}(k:Nat)(fr:List Nat)(e:List (Option d)):List (Option d):=List.replicate k none++fr.map λi=>(e[i]?).bind id
def zdu{f:Type}{k:Nat}{fr:List Nat}{e:List (Option f)}{i:Nat}{v:f}(h:(blkR k fr e)[i]? = some (some v)):∃m j,i=k+m/\fr[m]? = some j/\e[j]? = some (some v):=by
 unfold blkR at h;by_cases g:i<k
 ·rw[Ya (by rw[Y5];exact g),Wl] at h;split at h<;>cases h
 ·rw[Yd (by rw[Y5];omega),Y5,Zh] at h;cases q:fr[i-k]? with
  |none=>rw[q] at h;cases h
  |some j=>
   rw[q] at h;refine⟨i-k,j,by omega,q,?_⟩
   have d:(e[j]?).bind id=some v:=Zw h;cases z:e[j]? with
   |none=>rw[z] at d;cases d
   |some o=>rw[z] at d;cases o with
    |none=>cases d
    |some l=>exact congrArg some d
def yap{d:Type}{k:Nat}{fr:List Nat}{e:List (Option d)}{m j:Nat}{v:d}(f:fr[m]? = some j)(g:e[j]? = some (some v)):(blkR k fr e)[k+m]? = some (some v):=by
 unfold blkR;rw[Yd (by rw[Y5];omega),Y5,Zh,show k+m-k=m by omega,f];simp[g]
def ztg{d:Type}{k:Nat}{fr:List Nat}{e:List (Option d)}:(blkR k fr e).length=k+fr.length:=by
 unfold blkR;rw[Z5,Y5,Zc]
open PySem L2 PyProof.Rows
section
variable{X:Cx}{e a b:Expr}{es:List Expr}{ρ:Rho}{pos:Pos}{w:W}
def ylo:OpR X (binaryOp .Add) (λx y H Q=>∃l b g m,x=.ref l/\y=.ref b/\SqL X.K H l g/\SqL X.K H b m/\g.length+m.length<=sizeLine/\∀p,H p=none->Q (.ref p) (upd H p (.lst (g++m)))):=by
 intro B s Y H x y v u Q I G J h;obtain⟨l,b,g,m,rfl,rfl,L,M,Z,q⟩:=h
 cases G;cases J;obtain⟨e,r,pl,z1⟩:=I.list L
 obtain⟨d,C,o,z2⟩:=I.list M
 obtain⟨⟨N,t,O,sl1⟩,n,D,P,R,S⟩:=pl
 obtain⟨⟨T,w,U,sl2⟩,V,f,z,E,A⟩:=o
 cases P;cases S;cases z;cases A
 have l1:=r.length;have l2:=C.length;have W:e.toArray++d.toArray=(e++d).toArray:=by simp
 refine concat_meets ⟨_,D,rfl⟩ ⟨_,f,rfl⟩ noFill_list_add seq_list_add PySem.F.slot_list_add PySem.F.entry_list_add (PySem.F.args_list_add_2 _ _) (list_addW l b e.toArray d.toArray n V t w sl1 sl2 (by simp only[Zt];omega)) ⟨D,f,?_⟩;rw[W];exact⟨.ref _,_,I.lnew (t':=s.toks) (r.append C) (by rw[Z5];omega),rfl,q _ I.fresh⟩
def DE.cat{l m:List D}(s:DF X a ρ (.lst l))(t:DF X b ρ (.lst m))(w:l.length+m.length<=sizeLine):DE X (.BinOp a .Add b pos) ρ (.new (l++m)):=λe f=>
 PE.mono (yle ylo (s e f) (t e f)) (zdv λH F M v u Q R z A k=>by
  obtain⟨p,g,B,C,r⟩:=z.lst
  obtain⟨E,h,G,d,o⟩:=A.lst
  subst B;subst G;refine⟨p,E,g,h,rfl,rfl,R.sub.seq C,R.sub.seq d,by rw[r.length,o.length];exact w,λq I=>?_⟩
  obtain⟨J,K,L⟩:=R.put (.lst (g++h)) I
  exact k _ _ _ (Same.refl _) J (RW.n K L Bv (r.append o)))
def yom{i j:Int}(d:X.calm=true):zgw X (.builtin "min") [.int i,.int j] (.val (.int (if j<i then j else i))):=⟨_,yai d,λh l H F m ρ n Q R q k=>by
 obtain⟨v,u,e,f,g⟩:=q.two
 rw[f.int,g.int] at e;exact⟨i,j,e,k _ H F (Same.refl _) R RW.int⟩⟩
def yon{i j:Int}(d:X.calm=true):zgw X (.builtin "max") [.int i,.int j] (.val (.int (if i<j then j else i))):=⟨_,yak d,λh l H F m ρ n Q R q k=>by
 obtain⟨v,u,e,f,g⟩:=q.two
 rw[f.int,g.int] at e;exact⟨i,j,e,k _ H F (Same.refl _) R RW.int⟩⟩
end
section
variable{X:Cx}{e:Expr}{ρ:RhoS}{pos:Pos}
def zko{K:vE}{f g F H:Hp}{e:L2.St}(S:SR K f g F H e ρ){i:Nat}{l:List D}(h:ρ[i]? = some (some (.ow l))):∃a d,e[i]? = some (some (.ref a))/\H a=some (.lst d)/\DenL K F l d:=by
 obtain⟨a,d,p,_,_,m,n⟩:=S.own i l h
 exact⟨a,d,p,m,n⟩
def DS.app{i:Nat}{x:Str}{l:List D}{d:D}{p r s C:Pos}(E:X.N[i]? = some x)(G:Vis X.env.scope x)(I:(x == ("__debug__" : Str))=false)(n:(x == ("__classdict__" : Str))=false)(g:ρ[i]? = some (some (.ow l)))(J:DE X e (view ρ) (.val d))(o:Br e=true)(K:lf d=true)(L:l.length<sizeLine)
 (f:(r.endLine == s.line)=true):DS X (.Expr (.Call (.Attribute (.Name x p) "append" r) [e] [] s) C) ρ (.nx (ρ.set i (some (.ow (l++[d]))))):=λM O=>
 PS.mono (zij (ydq F.plainAttrs_list slot_list_append F.type_list_append zin (zax E G I n) (zct (J M O) zgg (Bw o)) rfl (by rw[Bw o];rfl) f (Bw o) rfl) rfl) λD P H ⟨F,S,k⟩=>by
  obtain⟨a,h,m,t,Q⟩:=zko S g
  obtain⟨Z,R⟩:=S.borrow
  refine⟨_,m,.inl ⟨rfl,h,SqL.of t⟩,_,R,λv T F2 u R2 q=>?_⟩
  obtain⟨U,V,w,W⟩:=S.back u R2 q K
  obtain⟨a',Y,z,A,g3⟩:=zko w g
  rw[m] at z;cases z;have B:T a=some (.lst h):=by
   have:=u a (.lst h) (by unfold DL.borrow;rw[if_pos ⟨i,l,g,m⟩];exact t)
   exact R2.sub _ _ this
  rw[B] at A;cases A;refine⟨a,h,v,rfl,rfl,B,by rw[Q.length];exact L,k P _ U V (w.mut g m (g3.append (DenL.cons W DenL.nil)))⟩
theorem DenL.set{K:vE}{F:Hp}{d:D}{v:V}(q:Den K F d v):∀{l:List D}{f:List V}(n:Nat),DenL K F l f->DenL K F (l.set n d) (f.set n v)
 |[],_,n,h=>by rw[h.inv_nil];simpa using DenL.nil
 |e::l,_,0,h=>by
  obtain⟨u,m,z,g,r⟩:=h.inv_cons
  subst z;exact DenL.cons q r
 |e::l,_,n+1,h=>by
  obtain⟨u,m,z,g,r⟩:=h.inv_cons
  subst z;exact DenL.cons g (DenL.set q n r)
def DS.seti{i n:Nat}{x:Str}{l:List D}{d:D}{j:Int}{p sp u:Pos}{k:Expr}(J:X.N[i]? = some x)(L:Vis X.env.scope x)(M:(x == ("__debug__" : Str))=false)(h:(x == ("__classdict__" : Str))=false)(f:ρ[i]? = some (some (.ow l)))(O:DE X e (view ρ) (.val d))(P:DF X k (view ρ) (.int j))(Q:lf d=true)(T:ixN l.length j=some n)
 (m:zdp k=true)(o:swapsWithSole [.Subscript (.Name x p) k sp] e u.line X.env=pure false)(U:swappedStores [.Subscript (.Name x p) k sp] e X.env=pure none):DS X (.Assign [.Subscript (.Name x p) k sp] e u) ρ (.nx (ρ.set i (some (.ow (l.set n d))))):=λr w=>
 PS.mono (yhg (O r w) (pg_sub (zax J L M h) (P r w) ycp (by intro v;cases k<;>first|rfl|(cases m;done))) o U rfl) λD z H ⟨F,S,V⟩=>by
  obtain⟨a,s,g,W,Y⟩:=zko S f
  obtain⟨s0,R⟩:=S.borrow
  have Z:Owned z ρ a:=⟨i,l,f,g⟩;refine⟨_,R,λv H2 F2 A R2 q=>?_⟩
  refine⟨.ref a,g,F2,R2,λkv H3 F3 t B q3=>?_⟩
  obtain⟨F4,s4,C,q4⟩:=S.back (A.trans t) B (show RW X.K r F3 H3 (.val d) v from Den.mono t d q) Q
  obtain⟨a',a0,E,G,g3⟩:=zko C f
  rw[g] at E;cases E;have I:H3 a=some (.lst s):=by
   have:=(A.trans t) a (.lst s) (by unfold DL.borrow;rw[if_pos Z];exact W)
   exact B.sub _ _ this
  rw[I] at G;cases G;refine⟨a,s,j,n,rfl,q3.int,I,by rw[Y.length];exact T,V z _ F4 s4 (C.mut f g (DenL.set q4 n g3))⟩
end
end DL
namespace DL
open PySem
end DL
namespace DL
open PySem
end DL
namespace DL
open PySem
section
variable{prog:Program}{w:World}{A:Around}{E:Value->Shared->Prop}{s:Shared}
abbrev IsTK(prog:Program)(w:World)(h:Heap)(k:List Int)(a:Addr):Prop:=IsTupleKey (intKind prog w) h k a
end
end DL
namespace DL
open PySem
section
variable{prog:Program}{w:World}{A:Around}{E:Value->Shared->Prop}{s:Shared}
end
end DL
namespace DL
open PySem
section
variable{prog:Program}{w:World}{A:Around}{E:Value->Shared->Prop}{s:Shared}
end
end DL
namespace DL
open PySem
section
variable{prog:Program}{w:World}{A:Around}{E:Value->Shared->Prop}{s:Shared}
end
end DL
namespace DL
open PySem
section
variable{prog:Program}{w:World}{A:Around}{E:Value->Shared->Prop}{s:Shared}
end
end DL
namespace DL
open PySem
section
variable{prog:Program}{w:World}{A:Around}{E:Value->Shared->Prop}{s:Shared}
end
end DL
namespace DL
open PySem PySem.W PyProof.Rows
structure Ord(N:Nat)(b:Nat->Nat->Bool):Prop where
 tr:∀i j k,b i j=true->b j k=true->b i k=true
 tot:∀i j,i<N->j<N->i≠j->b i j=true\/b j i=true
 asy:∀i j,b i j=true->b j i=true->False
def Arr(N:Nat)(p:Array Nat):Prop:=p.toList.Perm (List.range N)
def Srt(b:Nat->Nat->Bool)(p:Array Nat)(k:Nat):Prop:=∀i j,i<j->j<k->b (p.getD i 0) (p.getD j 0)=true
section
variable{b:Nat->Nat->Bool}{N:Nat}{p:Array Nat}
theorem Arr.size(h:Arr N p):p.size=N:=by
 have:=h.length_eq
 simpa using this
def gd{i:Nat}(h:i<p.size):p.getD i 0=p[i]:=by simp[Array.getD,h]
def gd?{q:Array Nat}{i j:Nat}(h:p[i]? = q[j]?):p.getD i 0=q.getD j 0:=by
 have e:∀(a:Array Nat) (k:Nat),a.getD k 0=(a[k]?).getD 0:=λa k=>by
  by_cases q:k<a.size
  ·rw[gd q,Qg q];rfl
  ·simp[Array.getD,q]
 rw[e,e,h]
def Arr.lt(h:Arr N p)(d:0<N)(i:Nat):p.getD i 0<N:=by
 by_cases q:i<p.size
 ·rw[gd q];exact Yw.mp (h.mem_iff.mp (Uc.mpr (Array.getElem_mem q)))
 ·rw[show p.getD i 0=0 by simp[Array.getD,q]];exact d
def Arr.inj(h:Arr N p){i j:Nat}(l:i<N)(m:j<N)(e:p.getD i 0=p.getD j 0):i=j:=by
 have n:p.toList.Nodup:=h.nodup_iff.mpr List.nodup_range;have d:i<p.size:=by rw[h.size];exact l
 have f:j<p.size:=by rw[h.size];exact m
 rw[gd d,gd f] at e;have:=Qh.mp n
 rcases Nat.lt_trichotomy i j with q|q|q
 ·have g:=this i j d f q;rw[Qj,Qj] at g;exact absurd e g
 ·exact q
 ·have g:=this j i f d q;rw[Qj,Qj] at g;exact absurd e.symm g
def Arr.perm{q:Array Nat}(h:Arr N p)(e:q.Perm p):Arr N q:=(Array.perm_iff_toList_perm.mp e).trans h
def Srt.more(O:Ord N b){n:Nat}(h:Srt b p n)(f:1<=n)(e:b (p.getD (n-1) 0) (p.getD n 0)=true):Srt b p (n+1):=λi j d g=>by
 by_cases q:j<n
 ·exact h i j d q
 ·have:j=n:=by omega
  subst this;by_cases z:i=j-1
  ·subst z;exact e
  ·exact O.tr _ _ _ (h i (j-1) vB vB) e
def Ord.not(O:Ord N b)(A:Arr N p){i j:Nat}(d:i<N)(f:j<N)(g:i≠j)(h:b (p.getD i 0) (p.getD j 0)=false):b (p.getD j 0) (p.getD i 0)=true:=by
 rcases O.tot (p.getD i 0) (p.getD j 0) (A.lt vB i) (A.lt vB j) (λe=>g (A.inj d f e)) with q|q
 ·rw[h] at q;cases q
 ·exact q
section
variable{cmp:Nat->Nat->(Bool->Shared->Prop)->Shared->Prop}{s:Shared}
abbrev zra(N:Nat)(b:Nat->Nat->Bool)(s:Shared)(cmp:Nat->Nat->(Bool->Shared->Prop)->Shared->Prop):Prop:=∀(i j:Nat) (C:Bool->Shared->Prop),i<N->j<N->C (b i j) s->cmp i j C s
theorem ybh(l:zra N b s cmp)(O:Ord N b)(A:Arr N p):∀(f n:Nat) (G:Nat->Shared->Prop),1<=n->n+f<=N->Srt b p n->(∀m,n<=m->m<=n+f->Srt b p m->(m<n+f->b (p.getD m 0) (p.getD (m-1) 0)=true)->G m s)->(kas_asc p f n).kasWp cmp G s
 |0,n,G,o,q,d,g=>g n (Zl _) vB d λh=>by omega
 |f+1,n,G,o,q,d,g=>by
  unfold kas_asc;refine l _ _ _ (A.lt vB _) (A.lt vB _) ?_;cases e:b (p.getD n 0) (p.getD (n-1) 0) with
  |true=>
   dsimp only;rw[if_pos rfl];exact g n (Zl _) vB d λ_=>e
  |false=>
   dsimp only;rw[if_neg Zz];exact ybh l O A f (n+1) G vB vB (d.more O o (O.not A vB vB vB e)) λm u v r t=>g m vB vB r λz=>t vB
def Fal(b:Nat->Nat->Bool)(p:Array Nat)(k:Nat):Prop:=∀i j,i<j->j<k->b (p.getD j 0) (p.getD i 0)=true
def Fal.more(O:Ord N b){n:Nat}(h:Fal b p n)(f:1<=n)(e:b (p.getD n 0) (p.getD (n-1) 0)=true):Fal b p (n+1):=λi j d g=>by
 by_cases q:j<n
 ·exact h i j d q
 ·have:j=n:=by omega
  subst this;by_cases z:i=j-1
  ·subst z;exact e
  ·exact O.tr _ _ _ e (h i (j-1) vB vB)
theorem zzt(h:zra N b s cmp)(O:Ord N b)(A:Arr N p):∀(f n:Nat) (G:Array Nat×Nat×Nat->Shared->Prop),1<=n->n+f<=N->Fal b p n->(∀m,n<=m->m<=n+f->Fal b p m->G (p,m,0) s)->(kas_desc f p n 0).kasWp cmp G s
 |0,n,G,l,o,d,g=>g n (Zl _) vB d
 |f+1,n,G,l,o,d,g=>by
  unfold kas_desc;refine h _ _ _ (A.lt vB _) (A.lt vB _) ?_;cases e:b (p.getD n 0) (p.getD (n-1) 0) with
  |true=>
   dsimp only;rw[if_pos rfl,if_neg vB];exact zzt h O A f (n+1) G vB vB (d.more O l e) λm r t q=>g m vB vB q
  |false=>
   dsimp only;rw[if_neg Zz];refine h _ _ _ (A.lt vB _) (A.lt vB _) ?_;dsimp only;rw[O.not A vB vB vB e,if_pos rfl];exact g n (Zl _) vB d
def zxa(A:Arr N p)(i j:Nat):Arr N (kas_rev p i j):=A.perm (mirror_perm _ _ _ _)
def ykl{n:Nat}(d:n<=p.size)(h:Fal b p n):Srt b (kas_rev p 0 n) n:=λi j f g=>by
 have e:∀k,k<n->(kas_rev p 0 n).getD k 0=p.getD (n-1-k) 0:=λk l=>by
  unfold kas_rev;refine gd? ?_;rw[getElem?_mirror_all d,if_pos vB,Yz]
 rw[e i vB,e j vB];exact h _ _ vB vB
def ych(d:zra N b s cmp)(O:Ord N b)(A:Arr N p){n:Nat}{G:Nat×Array Nat->Shared->Prop}(e:1<=n)(f:n<=N)(g:Fal b p n)(h:∀m q,Arr N q->1<=m->m<=N->Srt b q m->G (m,q) s):(kas_tail3 n N p).kasWp cmp G s:=by
 unfold kas_tail3;rw[KasT.kasWp_bind];exact ybh d O (zxa A 0 n) (N-n) n _ e vB (ykl (by rw[A.size];exact f) g) λm o r l _=>h m _ (zxa A 0 n) vB vB l
def yfl(d:zra N b s cmp)(O:Ord N b)(A:Arr N p){G:Nat×Array Nat->Shared->Prop}(u:1<=N)(e:∀m q,Arr N q->1<=m->m<=N->Srt b q m->G (m,q) s):(kas_count N p).kasWp cmp G s:=by
 unfold kas_count;rw[KasT.kasWp_bind];refine ybh d O A (N-1) 1 _ (Zl _) vB (λi j a b=>by omega) λm h v f n=>?_;by_cases g:(m == N)=true
 ·rw[if_pos g];exact e m p A h vB f
 ·rw[if_neg g];have w:m<N:=by
   have:m≠N:=λq=>g (by rw[q];exact beq_self_eq_true _)
   omega
  by_cases l:m > 1
  ·rw[if_pos l];refine d _ _ _ (A.lt vB _) (A.lt vB _) ?_;dsimp only;rw[f 0 (m-1) vB vB,if_pos rfl];exact e m p A h vB f
  ·rw[if_neg l];have:m=1:=by omega
   subst this;unfold kas_descPart;rw[KasT.kasWp_bind];refine zzt d O A (N-(1+1)) (1+1) _ vB vB (λi j a c=>?_) λm z B o=>?_
   ·have r:i=0:=by omega
    have t:j=1:=by omega
    subst r;subst t;exact n vB
   ·dsimp only;rw[if_neg vB];exact ych d O A vB vB o e
theorem zlf(t:zra N b s cmp)(O:Ord N b)(A:Arr N p){k:Nat}(v:k<N)(g:Srt b p k):∀(f l r:Nat) (G:Nat->Shared->Prop),l<=r->r<=k->r-l<=f->(∀i,i<l->b (p.getD k 0) (p.getD i 0)=false)->(∀i,r<=i->i<k->b (p.getD k 0) (p.getD i 0)=true) ->
   (∀m,m<=k->(∀i,i<m->b (p.getD k 0) (p.getD i 0)=false)->(∀i,m<=i->i<k->b (p.getD k 0) (p.getD i 0)=true)->G m s)->(kas_place p k f l r).kasWp cmp G s
 |0,l,r,G,B,h,C,n,o,d=>by
  have:l=r:=by omega
  subst this;exact d l h n o
 |f+1,l,r,G,B,h,C,n,o,d=>by
  unfold kas_place;by_cases q:l >= r
  ·rw[if_pos q];have:l=r:=by omega
   subst this;exact d l h n o
  ·rw[if_neg q];refine t _ _ _ (A.lt vB _) (A.lt vB _) ?_;cases e:b (p.getD k 0) (p.getD ((l+r)/2) 0) with
   |true=>
    dsimp only;rw[if_pos rfl];refine zlf t O A v g f l _ G vB vB vB n (λi D u=>?_) d;by_cases z:i=(l+r)/2
    ·subst z;exact e
    ·exact O.tr _ _ _ e (g _ i vB u)
   |false=>
    dsimp only;rw[if_neg Zz];refine zlf t O A v g f _ r G vB h vB (λi D=>?_) o d;by_cases z:i=(l+r)/2
    ·subst z;exact e
    ·cases w:b (p.getD k 0) (p.getD i 0) with
     |false=>rfl
     |true=>
      have:=O.tr _ _ _ w (g i ((l+r)/2) vB vB)
      rw[e] at this;cases this
def yoj(O:Ord N b)(A:Arr N p){k m:Nat}(l:k<N)(v:m<=k)(h:Srt b p k)(r:∀i,i<m->b (p.getD k 0) (p.getD i 0)=false)(s:∀i,m<=i->i<k->b (p.getD k 0) (p.getD i 0)=true):Srt b (bubble p k (k-m)) (k+1):=by
 have t:k<p.size:=by rw[A.size];exact l
 have e:∀i,(bubble p k (k-m)).getD i 0=p.getD (if i=m then k else if m<i/\i<=k then i-1 else i) 0:=λi=>by
  refine gd? ?_;rw[getElem?_bubble t (k-m) vB,show k-(k-m)=m by omega];by_cases q:i=m
  ·rw[if_pos q,if_pos q]
  ·rw[if_neg q,if_neg q];by_cases g:m<i/\i<=k
   ·rw[if_pos g,if_pos g]
   ·rw[if_neg g,if_neg g]
 intro i j u w;rw[e,e];by_cases n:i=m
 ·rw[if_pos n,if_neg vB,if_pos vB];exact s _ vB vB
 ·rw[if_neg n];by_cases d:m<i/\i<=k
  ·rw[if_pos d,if_neg vB,if_pos vB];exact h _ _ vB vB
  ·rw[if_neg d];by_cases o:j=m
   ·rw[if_pos o];exact O.not A l vB vB (r i vB)
   ·rw[if_neg o];by_cases f:m<j/\j<=k
    ·rw[if_pos f];exact h _ _ vB vB
    ·rw[if_neg f];exact h _ _ vB vB
theorem yii(O:Ord N b)(g:zra N b s cmp):∀(f k:Nat) (p:Array Nat) (G:Array Nat->Shared->Prop),Arr N p->k+f=N->Srt b p k->(∀q,Arr N q->Srt b q N->G q s)->(kas_bin f p k).kasWp cmp G s
 |0,k,p,G,A,h,d,e=>by
  have:k=N:=by omega
  subst this;exact e p A d
 |f+1,k,p,G,A,h,d,e=>by
  unfold kas_bin;rw[KasT.kasWp_bind];refine zlf g O A vB d k 0 k _ (Yj _) (Zl _) vB (λi l=>by omega) (λi l n=>by omega) λm o r t=>?_;exact yii O g f (k+1) _ G (A.perm (bubble_perm _ _ _)) vB (yoj O A vB o d r t) e
def yjm(O:Ord N b)(d:zra N b s cmp)(l:1<=N){G:Array Nat->Shared->Prop}(h:∀q,Arr N q->Srt b q N->G q s):(kas_sort N).kasWp cmp G s:=by
 unfold kas_sort;rw[KasT.kasWp_bind];refine yfl d O (Gu _) l λm q f n o g=>?_;dsimp only;by_cases e:m<N
 ·rw[if_pos e,show max m 1=m by omega];exact yii O d (N-m) m q G f vB g h
 ·rw[if_neg e];have:m=N:=by omega
  subst this;exact h q f g
end
end
end DL
namespace DL
open PySem PySem.W PyProof.Rows
def ltK:List Int->List Int->Bool
 |[a,b],[c,d]=>decide (a<c) || (decide (a=c) && decide (b<d))
 |_,_=>false
def isPr:List Int->Bool
 |[_,_]=>true
 |_=>false
theorem yhp:∀x y z,ltK x y=true->ltK y z=true->ltK x z=true
 |[a,b],[c,d],[e,f],g,h=>by
  simp only[ltK,J2,Zk,decide_eq_true_eq] at g h |-;omega
theorem zll:∀x y,ltK x y=true->ltK y x=true->False
 |[a,b],[c,d],e,f=>by
  simp only[ltK,J2,Zk,decide_eq_true_eq] at e f;omega
theorem zyp:∀x y,isPr x=true->isPr y=true->x≠y->ltK x y=true\/ltK y x=true
 |[a,b],[c,d],_,_,h=>by
  simp only[ltK,J2,Zk,decide_eq_true_eq];have:¬(a=c/\b=d):=λ⟨e,f⟩=>h (by rw[e,f])
  omega
def zle{d:Program}{w:World}{a b:Int}{f:List Value}(h:ItemsAre (intKind d w) [a,b] f):∃t u,f=[.int a t,.int b u]:=by
 cases h with
 |cons g e=>
  cases e with
  |cons e l=>
   cases l;obtain⟨t,m⟩:=Uu g
   obtain⟨u,n⟩:=Uu e
   exact⟨t,u,by rw[m,n]⟩
def ydi{d:Type}{R:d->d->Prop}{l:List d}(h:l.length<2):l.Pairwise R:=by
 cases l with
 |nil=>exact List.Pairwise.nil
 |cons x r=>
  cases r with
  |nil=>exact Wj _ _
  |cons y r=>rw[Zr,Zr] at h;omega
section
variable{prog:Program}{w:World}{A:Around}{E:Value->Shared->Prop}{s:Shared}
def lt_pr{k l:List Int}{x y:Addr}{Q:Bool->Shared->Prop}(q:isPr k=true)(r:isPr l=true)(f:IsTK prog w s.heap k x)(g:IsTK prog w s.heap l y)(h:Q (ltK k l) s):wpAny (model prog w) A (keyLt' (tuples' true) (.ref x) (.ref y)) Q E s:=by
 match k,q,l,r,f,g,h with
 |[a,b],_,[c,d],_,f,g,h=>
  obtain⟨K,v,n,z,_,B,C⟩:=f
  obtain⟨L,D,m,F,_,G,H⟩:=g
  obtain⟨t,u,ex⟩:=zle C
  obtain⟨M,N,p⟩:=zle H
  have I:v.size=2:=by rw[<-Qp,ex];rfl
  have J:D.size=2:=by rw[<-Qp,p];rfl
  refine kat_lt z B F G ?_;rw[ex,p,I,J];refine kat_cons (V2 ?_);by_cases e:a=c
  ·rw[show(a == c)=true by simpa using e];refine kat_yes (kat_cons (V2 ?_));by_cases o:b=d
   ·rw[show(b == d)=true by simpa using o];refine kat_yes (kat_nil ?_);have:ltK [a,b] [c,d]=decide (2<2):=by subst e;subst o;simp[ltK]
    rw[this] at h;exact h
   ·rw[show(b == d)=false by simpa using o];refine kat_no (kat_one _ _ (lt_int ?_));have:ltK [a,b] [c,d]=decide (b<d):=by subst e;simp[ltK]
    rw[this] at h;exact h
  ·rw[show(a == c)=false by simpa using e];refine kat_no ?_;show wpAny _ _ (oneLt' true _ _) _ _ _;refine oneLt_int ?_;have:ltK [a,b] [c,d]=decide (a<c):=by simp[ltK,e]
   rw[this] at h;exact h
theorem katT:∀(f:List (List Int×Addr)),(∀x∈f,IsTK prog w s.heap x.1 x.2/\isPr x.1=true)->∃l,KatTups s.heap (f.map λx=>Value.ref x.2) l/\l.length=f.length/\∀v∈l,∃i t,v=.int i t
 |[],_=>⟨[],trivial,rfl,λv h=>by cases h⟩
 |(k,a)::f,h=>by
  obtain⟨l,r,z,A⟩:=katT f λx B=>h x (.tail _ B)
  obtain⟨m,C⟩:=h (k,a) (.head _)
  match k,C,m with
  |[c,d],_,m=>
   obtain⟨o,p,n,g,D,E,F⟩:=m
   obtain⟨t,u,e⟩:=zle F
   refine⟨.int c t::l,KatTups.cons g D E ?_ r,by simp[z],λv q=>?_⟩
   ·have:p = #[.int c t,.int d u]:=by apply K0.mp;rw[e]
    rw[this];rfl
   ·rcases Zg.mp q with e|q
    ·exact⟨c,t,e⟩
    ·exact A v q
def yjl{a:Addr}{xs:List (List Int×Addr)}{n:Nat}{P:PySem.Fin->Shared->Prop}(N:s.heap.get? a=some (seqObj "list" (xs.map λx=>Value.ref x.2).toArray n))(G:∀x∈xs,IsTK prog w s.heap x.1 x.2/\isPr x.1=true)
 (nd:(xs.map (·.1)).Nodup)(aa:xs.length<64)
 (h:∀Z (z:List (List Int×Addr)) n',z.Perm xs->z.Pairwise (λx y=>ltK x.1 y.1=true)->Z.get? a=some (seqObj "list" (z.map λx=>Value.ref x.2).toArray n')->(∀b o,b≠a->s.heap.get? b=some o->Z.get? b=some o)->P (.done (.ret .none)) {s with heap:=Z}):
  wpAny (model prog w) A (Builtin.«list.sort» ⟨[.ref a],[]⟩) P E s:=by
 generalize I:(xs.map λx=>Value.ref x.2)=d at N;have L:d.length=xs.length:=by rw[<-I];simp
 have ha:a<s.heap.objs.size:=Zo N;have s1:=Ku s.heap a (Obj.mapSeq λ_=>(#[]:Array Value));obtain⟨e1,S⟩:∃e1,(s.heap.update a (Obj.mapSeq λ_=>(#[]:Array Value))).get? a=some (seqObj "list" #[] e1):=⟨_,get?_update_seq N λ_=>#[]⟩
 generalize hH:((s.heap.update a (Obj.mapSeq λ_=>(#[]:Array Value))).push (seqObj "tuple" d.toArray 0)).push (seqObj "list" #[] 0)=H;have l:H.get? a=some (seqObj "list" #[] e1):=by rw[<-hH];exact Ze _ (Ze _ S)
 have M:∀b o,b≠a->s.heap.get? b=some o->H.get? b=some o:=λb o X e=>by
  rw[<-hH];exact Ze _ (Ze _ ((s1.2 b X).trans e))
 have a0:∀x∈xs,x.2≠a:=λx Y e=>by
  obtain⟨⟨o,_,_,g,hc,_⟩,_⟩:=G x Y
  rw[e,N] at g;cases g;injection hc with e
  exact absurd e vA
 have f:∀x∈xs,IsTK prog w H x.1 x.2/\isPr x.1=true:=λx Y=>by
  obtain⟨⟨o,a5,m,g,r⟩,U⟩:=G x Y
  exact⟨⟨o,a5,m,M _ _ (a0 x Y) g,r⟩,U⟩
 have V:∀(B:Shared) (z:List (List Int×Addr)),B={s with heap:=H}->z.Perm xs->z.Pairwise (λx y=>ltK x.1 y.1=true)->P (.done (.ret .none)) {B with heap:=B.heap.update a (Obj.mapSeq λ_=>(z.map λx=>Value.ref x.2).toArray)}:=λB z e U hw=>by
  subst e;refine h _ z _ U hw (get?_update_seq l λ_=>(z.map λx=>Value.ref x.2).toArray) λb o X e=>?_;exact((Ku H a _).2 b X).trans (M b o X e)
 rw[list_sort_plain];refine Zd (listItems_at N rfl ?_);refine Zd (Vf N rfl ?_ (by rw[Zt,K3];omega) (Yj _));refine Zd (seqEpoch_at S rfl ?_);refine Zd (Ge ?_ (by show d.length<=_;rw[K3];omega));refine Zd (Gy ?_ (Yj _));refine W7 ?_;show wpAny (model prog w) A _ P E {s with heap:=((s.heap.update a (Obj.mapSeq λ_=>(#[]:Array Value))).push (seqObj "tuple" d.toArray 0)).push (seqObj "list" #[] 0)};rw[hH];dsimp only;by_cases D:d.toArray.size<2
 ·rw[if_pos D,if_pos D];refine Zd (Zs ?_);rw[StateT.run_pure];refine Zd (Zs ?_);dsimp only;refine Zd (seqEpoch_at l rfl ?_);refine Zd (Vf l rfl ?_ (Yj _) (by rw[Array.size_map];show(pairsOf d).size<=_;rw[pairsOf_size,K3];omega));simp only[bne_self_eq_false,Wf,if_false];have e2:(arrOf (SortSt.mk' general' (d.toArray.zip d.toArray) #[] 7 none)).map (·.2)=(xs.map λx=>Value.ref x.2).toArray:=by
   rw[I];apply K0.mp
   refine Ka λi=>?_;show(((pairsOf d).map (·.2)).toList)[i]? = _;by_cases q:i<d.length
   ·simp[pairsOf,q]
   ·simp[pairsOf,q]
  refine Zs ?_;have:=V {s with heap:=H} xs rfl (Gu _) (ydi (by
   rw[Zt,L] at D;exact D))
  rw[<-e2] at this;exact this
 ·rw[if_neg D,if_neg D];rw[Zt] at D;obtain⟨fs,kt,kl,ki⟩:=katT (s:={s with heap:=H}) xs f
  rw[I] at kt;refine Zd (kat_kind (T:=.type "int") kt vB (λv hv=>?_) rfl ?_)
  ·obtain⟨i,t,rfl⟩:=ki v hv
   exact Looks.of_pure rfl
  have a6:SortSt.mk' (tuples' true) (d.toArray.zip d.toArray) #[] 7 none=kas_st (tuples' true) (pairsOf d) (List.toArray (List.range d.length)):=by
   have e:=kas_range (pairsOf d);rw[pairsOf_size] at e;show SortSt.mk' (tuples' true) (pairsOf d) #[] 7 none=SortSt.mk' (tuples' true) ((List.toArray (List.range d.length)).map (kas_item (pairsOf d))) #[] 7 none;rw[e]
  let b:Nat->Nat->Bool:=λi j=>ltK (xs.getD i ([],0)).1 (xs.getD j ([],0)).1
  have R:∀i,i<xs.length->xs.getD i ([],0)∈xs:=λi F=>by
   rw[Z1,Zi F];exact Kk F
  have gv:∀i,i<xs.length->d.getD i Value.none=.ref (xs.getD i ([],0)).2:=λi F=>by
   rw[<-I,Z1,Zh,Z1,Zi F];rfl
  have O:Ord d.length b:=⟨λi j k=>yhp _ _ _,λi j F hj ne=>zyp _ _ (G _ (R i vB)).2 (G _ (R j vB)).2 (λe=>ne (by
   have J:i<xs.length:=by omega
   have K:j<xs.length:=by omega
   rw[Z1,Zi J,Z1,Zi K] at e;have:=(Kl (h₀:=by simpa using J) (h₁:=by simpa using K) nd).mp (by simpa using e)
   exact this)),λi j=>zll _ _⟩
  have a7:(kas_sort d.length).kasWp (kas_cmp prog w A (tuples' true) (pairsOf d)) (λp B=>B={s with heap:=H}/\Arr d.length p/\Srt b p d.length) {s with heap:=H}:=by
   refine yjm O (λi j C F hj hC=>?_) vB λq h1 D=>⟨rfl,h1,D⟩
   unfold kas_cmp;rw[kas_item_eq,kas_item_eq,gv i vB,gv j vB];exact lt_pr (f _ (R i vB)).2 (f _ (R j vB)).2 (f _ (R i vB)).1 (f _ (R j vB)).1 hC
  have run:=kas_runs (E:=E) (Q:=λ_ u B=>∃p:Array Nat,p.size=d.length/\arrOf u=p.map (kas_item (pairsOf d))/\failedOf u=none/\B={s with heap:=H}/\Arr d.length p/\Srt b p d.length)
   vB vB (λp' u B a1 a2 a3 a4=>⟨p',a1,a2,a3,a4⟩) a7
  rw[<-a6] at run;refine Zd (Uq run ?_ λ_ _ e=>e);rintro⟨⟨⟩,u⟩ B ⟨p,U,a8,hf,rfl,hA,hS⟩
  dsimp only;have W:(arrOf u).map (·.2)=((p.toList.map λi=>xs.getD i ([],0)).map λx=>Value.ref x.2).toArray:=by
   apply K0.mp
   rw[a8,Array.map_map,Array.toList_map,Ye];refine Wb λi F=>?_;show(kas_item (pairsOf d) i).2=_;rw[kas_item_eq];exact gv i (by have:=Yw.mp (hA.mem_iff.mp F);omega)
  rw[W];refine Zd (seqEpoch_at l rfl ?_);refine Zd (Vf l rfl ?_ (Yj _) (by
   have:p.toList.length=d.length:=by rw[Qp,U]
   simp only[Zt,Zc,this];rw[K3];omega))
  rw[hf];simp only[bne_self_eq_false,Wf,if_false];refine Zs (V {s with heap:=H} _ rfl ?_ ?_)
  ·have e0:xs=(List.range xs.length).map λi=>xs.getD i ([],0):=by
    refine List.ext_getElem vC λi h1 D=>?_;simp[h1]
   have:=hA.map λi=>xs.getD i ([],0)
   rw[L,<-e0] at this;exact this
  ·rw[Ql,Qh];intro i j F hj a9;have J:i<p.size:=by simpa using F
   have K:j<p.size:=by simpa using hj
   have:=hS i j a9 vB
   rw[gd J,gd K] at this;rw[Qj,Qj];exact this
end
end DL
namespace DL
open PySem PySem.W PyProof.Rows
section
variable{prog:Program}{w:World}{A:Around}{E:Value->Shared->Prop}{s:Shared}
end
open PySem L2 PyProof.Rows
def insK(k:List Int):List (List Int)->List (List Int)
 |[]=>[k]
 |x::l=>if ltK k x=true then k::x::l else if k=x then x::l else x::insK k l
def ssK:List (List Int)->List (List Int)
 |[]=>[]
 |k::l=>insK k (ssK l)
abbrev SrtK(l:List (List Int)):Prop:=l.Pairwise λx y=>ltK x y=true
theorem insK_mem{k x:List Int}:∀{l:List (List Int)},x∈insK k l↔x=k\/x∈l
 |[]=>by simp[insK]
 |y::l=>by
  unfold insK;split
  ·simp
  ·split
   ·rename_i e;subst e;simp
   ·rw[Zg,insK_mem,Zg];constructor
    ·rintro(h|h|h)
     ·exact .inr (.inl h)
     ·exact .inl h
     ·exact .inr (.inr h)
    ·rintro(h|h|h)
     ·exact .inr (.inl h)
     ·exact .inl h
     ·exact .inr (.inr h)
theorem zsl{k:List Int}(g:isPr k=true):∀{l:List (List Int)},(∀x∈l,isPr x=true)->SrtK l->SrtK (insK k l)
 |[],_,_=>Wj _ _
 |y::l,h,f=>by
  obtain⟨m,n⟩:=Y9.mp f
  unfold insK;split
  ·rename_i e;refine Y9.mpr ⟨λx d=>?_,f⟩;rcases Zg.mp d with q|q
   ·rw[q];exact e
   ·exact yhp _ _ _ e (m x q)
  ·rename_i e;split
   ·exact f
   ·rename_i o;refine Y9.mpr ⟨λx d=>?_,zsl g (λx d=>h x (.tail _ d)) n⟩;rcases insK_mem.mp d with q|q
    ·rw[q];exact(zyp k y g (h y (.head _)) o).resolve_left e
    ·exact m x q
theorem ssK_mem{x:List Int}:∀{l:List (List Int)},x∈ssK l↔x∈l
 |[]=>Iff.rfl
 |k::l=>by
  unfold ssK;rw[insK_mem,ssK_mem,Zg]
theorem zph:∀{l:List (List Int)},(∀x∈l,isPr x=true)->SrtK (ssK l)
 |[],_=>List.Pairwise.nil
 |k::l,h=>zsl (h k (.head _)) (λx d=>h x (.tail _ (ssK_mem.mp d))) (zph λx d=>h x (.tail _ d))
theorem ygz:∀{l m:List (List Int)},SrtK l->SrtK m->(∀x,x∈l↔x∈m)->l=m
 |[],[],_,_,_=>rfl
 |[],y::m,_,_,h=>by have:=(h y).mpr (.head _);cases this
 |x::l,[],_,_,h=>by have:=(h x).mp (.head _);cases this
 |x::l,y::m,o,p,h=>by
  obtain⟨f,r⟩:=Y9.mp o
  obtain⟨g,s⟩:=Y9.mp p
  have e:x=y:=by
   rcases Zg.mp ((h x).mp (.head _)) with q|q
   ·exact q
   ·rcases Zg.mp ((h y).mpr (.head _)) with n|n
    ·exact n.symm
    ·exact(zll _ _ (g x q) (f y n)).elim
  subst e;rw[ygz r s λz=>⟨λd=>?_,λd=>?_⟩]
  ·rcases Zg.mp ((h z).mp (.tail _ d)) with q|q
   ·subst q;exact(zll _ _ (f z d) (f z d)).elim
   ·exact q
  ·rcases Zg.mp ((h z).mpr (.tail _ d)) with q|q
   ·subst q;exact(zll _ _ (g z d) (g z d)).elim
   ·exact q
def keyD:D->Option (List Int)
 |.tup [.int a,.int b]=>some [a,b]
 |_=>none
def zyu:List D->Option (List (List Int))
 |[]=>some []
 |d::l=>(keyD d).bind λk=>(zyu l).map λe=>k::e
def dK(k:List Int):D:=.tup (k.map D.int)
def zyv{d:D}{k:List Int}(h:keyD d=some k):∃a b,d=.tup [.int a,.int b]/\k=[a,b]:=by
 unfold keyD at h;split at h
 ·cases h;exact⟨_,_,rfl,rfl⟩
 ·cases h
section
variable{X:Cx}{e:Expr}{es:List Expr}{ρ:Rho}{pos:Pos}{w:W}
theorem zsy{K:vE}{F:Hp}:∀{l:List D}{n:List V}{m:List (List Int)},DenL K F l n->zyu l=some m->∃f:List (List Int×Addr),n=f.map (λz=>V.ref z.2)/\f.map (·.1)=m/\∀z∈f,SqT K F z.2 (z.1.map V.int)/\isPr z.1=true
 |[],_,_,h,e=>by
  cases e;exact⟨[],h.inv_nil,rfl,λz g=>by cases g⟩
 |d::l,_,_,h,e=>by
  unfold zyu at e;obtain⟨k,p,s⟩:=Za.mp e
  obtain⟨m,u,w⟩:=Zb.mp s
  subst w;obtain⟨a,b,ed,A⟩:=zyv p
  obtain⟨v,M,ev,q,r⟩:=h.inv_cons
  obtain⟨f,B,C,E⟩:=zsy r u
  rw[ed] at q;obtain⟨t,N,G,o,H⟩:=q.tup
  obtain⟨O,P,I,J,L⟩:=H.two
  rw[I,J.int,L.int] at o;refine⟨(k,t)::f,by rw[ev,G,B];rfl,by rw[<-C];rfl,λz g=>?_⟩
  rcases Zg.mp g with e|g
  ·subst e;rw[A];exact⟨o,rfl⟩
  ·exact E z g
theorem zmp:∀{d:List (List Int×Addr)}{e:List Value},Vals (d.map λz=>V.ref z.2) e->e=d.map λz=>Value.ref z.2
 |[],_,h=>by cases h;rfl
 |z::d,_,h=>by
  cases h with
  |cons f g=>rw[show _=Value.ref z.2 from f,zmp g];rfl
theorem zvr:∀(d:List (List Int×Addr)),Vals (d.map λz=>V.ref z.2) (d.map λz=>Value.ref z.2)
 |[]=>.nil
 |z::d=>.cons rfl (zvr d)
theorem zrg{d:Program}{w:World}:∀{k:List Int}{f:List Value},Vals (k.map V.int) f->ItemsAre (intKind d w) k f
 |[],_,h=>by cases h;exact .nil
 |i::k,_,h=>by
  cases h with
  |cons g l=>
   obtain⟨t,e⟩:=g
   subst e;exact .cons (by show Value.isInt i (.int i t)=true;simp[Value.isInt]) (zrg l)
def Inv.tk{pins σ H s}{z:List Int×Addr}(I:Inv X pins σ H s)(h:SqT X.K H z.2 (z.1.map V.int)):IsTK X.prog X.w s.heap z.1 z.2:=by
 obtain⟨d,r,⟨o,e,f,n,g⟩,_⟩:=I.tuple h
 exact⟨o,d.toArray,n,e,f,g,zrg r⟩
end
open PySem L2 PyProof.Rows
section
variable{prog:Program}{w:World}{A:Around}{E:Value->Shared->Prop}{s:Shared}
end
section
variable{X:Cx}{e:Expr}{es:List Expr}{ρ:Rho}{pos:Pos}{w:W}
def ydo{x y:Str}{p K u:Pos}{f g:String}{t:TA}{r:List V->Hp->VK->Prop}(L:∀d s l H n q Q,Inv X d l H s->Vals n q->r n H Q->wpAny (model X.prog X.w) X.A (call (.type g) q) (λm v=>wpAny (model X.prog X.w) X.A (call (.type f) [m]) (EP X d l Q) X.xe v) X.xe s)
 (M:Gl X x)(z:X.mg x=none)(N:bootBuiltins x=some (.type f))(O:x ≠ "__name__")(B:(x == ("__debug__" : Str))=false)(C:Gl X y)(D:X.mg y=none)(E:bootBuiltins y=some (.type g))(F:y ≠ "__name__")(o:(y == ("__debug__" : Str))=false)(P:PA X (e::es) t)(R:Br e=true)(G:es.all Br=true):
  PE X (.Call (.Name x p) [.Call (.Name y K) (e::es) [] u] [] pos) (λl H Q=>t l H λn J=>r n J Q):=by
 intro d s l H Q I h;refine Q9 (zgk I M z N ?_ O B);refine Y8 ?_;show wpAny _ _ (spliced ((false,eval (.Call (.Name y K) (e::es) [] u) X.env)::backTo pos (starEach [] X.env))) _ _ s;refine Gv ?_;refine Q9 (zgk I C D E ?_ F o);refine Y8 (thn (P u d s l H _ I h) λq v ⟨n,J,S,T,U⟩=>?_) (Bw R) (zdc G);exact thn (L d v l J n q Q S T U) λm W z=>G6 z
def yik(X:Cx)(f g:Value)(u:List D)(w:W):Prop:=∃r:List V->Hp->VK->Prop,(∀d s e H h p Q,Inv X d e H s->Vals h p->r h H Q->wpAny (model X.prog X.w) X.A (call g p) (λm v=>wpAny (model X.prog X.w) X.A (call f [m]) (EP X d e Q) X.xe v) X.xe s) /\
 ∀(l q H F:Hp) (e:L2.St) (ρ:Rho) (h:List V) (Q:VK),ER X.K l q F H e ρ->DenL X.K F u h->(∀t n o,Same F o->ER X.K l q o n e ρ->RW X.K l o n w t->Q t n)->r h H Q
def DE.nestT{x y:Str}{p v z:Pos}{f g:String}{s:List D}(A:yik X (.type f) (.type g) s w)(B:Gl X x)(C:X.mg x=none)(E:bootBuiltins x=some (.type f))(G:x ≠ "__name__")(h:(x == ("__debug__" : Str))=false)(l:Gl X y)(m:X.mg y=none)(n:bootBuiltins y=some (.type g))(o:y ≠ "__name__")(d:(y == ("__debug__" : Str))=false)
 (I:DA X (e::es) ρ s)(J:Br e=true)(q:es.all Br=true):DE X (.Call (.Name x p) [.Call (.Name y v) (e::es) [] z] [] pos) ρ w:=λt u=>by
 obtain⟨r,K,L⟩:=A
 refine PE.mono (ydo K B C E G h l m n o d (I t u) J q) λM H Q ⟨F,R,k⟩=>⟨F,R,λN O P S T U=>?_⟩
 exact L t u O P M ρ N Q T U λV W Y Z R' q'=>k V W Y (S.trans Z) R' q'
theorem DenL.rev{K:vE}{F:Hp}:∀{l:List D}{f:List V},DenL K F l f->DenL K F l.reverse f.reverse
 |[],_,h=>by rw[h.inv_nil];exact DenL.nil
 |d::l,_,h=>by
  obtain⟨v,g,e,q,r⟩:=h.inv_cons
  subst e;rw[Bb,Bb];exact(DenL.rev r).append (DenL.cons q DenL.nil)
def yao{l:List D}:zgw X (.type "tuple") [.lst l] (.val (.tup l)):=⟨_,zmc,λn o H F s ρ t Q R q k=>by
 obtain⟨v,e,q⟩:=q.one
 obtain⟨p,d,g,h,r⟩:=q.lst
 rw[g] at e;refine⟨p,d,e,.inl ⟨R.sub.seq h,λu m=>?_⟩⟩
 obtain⟨R2,f⟩:=R.lay (.tup d) m
 exact k _ _ _ f R2 (RW.v (Den.tup_mk (SqT.of Bv) (r.mono f)))⟩
end
open PySem L2 PyProof.Rows
section
variable{prog:Program}{w:World}{A:Around}{E:Value->Shared->Prop}{s:Shared}
abbrev IsZ2(h:Heap)(z TI TO T:Addr)(d:Bool):Prop:=
 h.get? z=some {cls:=.type "zip",dict:=none,data:=.fields #[rawInt T,.bool d,.bool false,.ref TI,.ref TO],slots:=#[]}
def yet{a:Addr}{Q:Option Obj->Shared->Prop}(h:Q (s.heap.get? a) s):wpAny (model prog w) A (loadIfAlive a) Q E s:=λ_ _ _=>h
def zsa{z TI TO T:Addr}{g:Bool}{Q:Bool->Shared->Prop}(f:IsZ2 s.heap z TI TO T g)(n:∃o,s.heap.get? T=some o)(h:∀l,IsZ2 l z TI TO T true->Heap.SameBut z s.heap l->Q false {s with heap:=l}):
  wpAny (model prog w) A (Builtin.SmallTypes.ownedTupleIsFree (.ref z)) Q E s:=by
 obtain⟨o,p⟩:=n
 unfold Builtin.SmallTypes.ownedTupleIsFree;refine Zd (Wg f rfl (x:=rawInt T) rfl ?_);show wpAny _ _ (loadIfAlive ((T:Int)).toNat >>= _) _ _ _;rw[Z9];refine Zd (yet ?_);rw[p];simp only[Option.isNone_some,Wf,if_false];refine Zd (Wg f rfl (x:=.bool g) rfl ?_);cases g with
 |true=>
  exact Zd (Zs (Zs (h _ f ⟨rfl,λ_ _=>rfl⟩)))
 |false=>
  refine Zd (Q8 f vC λm d e=>?_);exact Zs (h _ d e)
structure ZA(z TI i1 i2 l1 l2:Addr):Prop where
 TIz:TI≠z
 i1z:i1≠z
 i2z:i2≠z
 TIi1:TI≠i1
 TIi2:TI≠i2
 i12:i1≠i2
 l1z:l1≠z
 l1i1:l1≠i1
 l1i2:l1≠i2
 l2z:l2≠z
 l2i1:l2≠i1
 l2i2:l2≠i2
def zvd{z TI TO T m n l1 l2:Addr}{V:Bool}{F G:Nat}{O P:Array Value}{x y:Value}{Q:Option Value->Shared->Prop}(D:ZA z TI m n l1 l2)(C:IsZ2 s.heap z TI TO T V)(W:∃o,s.heap.get? T=some o)(H:IsPair s.heap TI (.ref m) (.ref n))
 (X:s.heap.IsListIter m l1 F)(Y:s.heap.IsListIter n l2 G)(I:s.heap.IsList l1 O)(J:s.heap.IsList l2 P)(Z:O[F]? = some x)(hy:P[G]? = some y)
 (hQ:∀p,IsZ2 p z TI TO T true->p.IsListIter m l1 (F+1)->p.IsListIter n l2 (G+1)->IsPair p s.heap.objs.size x y->p.objs.size=s.heap.objs.size+1 ->
   (∀c o,c≠z->c≠m->c≠n->s.heap.get? c=some o->p.get? c=some o)->Q (some (.ref s.heap.objs.size)) {s with heap:=p}):
  wpAny (model prog w) A (pyNext (.ref z)) Q E s:=by
 have B:s.TypeIs (.ref z) "zip" := ⟨_,C,rfl⟩;unfold pyNext;refine Zd (Ve (wpAny_callSpecial?_slot (name:=Str.ofString "__next__") B Qo (Q3 Qo B J1 ?_ (Jw _))));show wpAny _ _ (field (.ref z) 2 >>= _) _ _ _;refine Zd (Wg C rfl (x:=.bool false) rfl ?_);show wpAny _ _ (field (.ref z) 3 >>= _) _ _ _;refine Zd (Wg C rfl (x:=.ref TI) rfl ?_);refine Zd (Wo H rfl ?_);show wpAny _ _ (Builtin.SmallTypes.ownedTupleIsFree (.ref z) >>= _) _ _ _;refine Zd (zsa C W λR q d=>?_);simp only[Wf,if_false];refine Zd ?_;rw[<-Gw];simp only[K7,Uh];refine Zd (Zd (W7 ?_));show wpAny _ _ (Builtin.SmallTypes.nextOf (.ref m) >>= _) _ _ _;refine Zd (Uf (X.extBut d.extBut D.i1z) (I.extBut d.extBut D.l1z) Z λS r h=>Zs (Zs ?_));refine Zd (Zd (W7 ?_));show wpAny _ _ (Builtin.SmallTypes.nextOf (.ref n) >>= _) _ _ _;refine Zd (Uf ((Y.extBut d.extBut D.i2z).extBut h.extBut D.i12.symm) ((J.extBut d.extBut D.l2z).extBut h.extBut D.l2i1) hy λf t l=>Zs (Zs (Zs ?_)));refine Zd (Ge ?_ (by show 2<=sizeLine;decide));have K:f.objs.size=s.heap.objs.size:=by rw[l.1,h.1,d.1]
 have kp:∀c o,c≠z->c≠m->c≠n->s.heap.get? c=some o->f.get? c=some o:=λc o L M N e=>l.extBut _ _ N (h.extBut _ _ M (d.extBut _ _ L e))
 have u:IsZ2 f z TI TO T true:=l.extBut _ _ D.i2z.symm (h.extBut _ _ D.i1z.symm q);have v:=r.extBut l.extBut D.i12;refine Zs ⟨_,rfl,Zs ?_⟩;show Q (some (.ref f.objs.size)) _;have g:(f.push {cls:=.type "tuple",data:=.seq #[x,y]}).get? f.objs.size=some {cls:=.type "tuple",data:=.seq #[x,y]}:=Z0 _ rfl;have U:(f.push {cls:=.type "tuple",data:=.seq #[x,y]}).objs.size=f.objs.size+1:=Qy ..;rw[K] at g U |-;exact hQ _ (Ze _ u) (v.at λo e=>Ze _ e) (t.at λo e=>Ze _ e) g U λc o L M N e=>Ze _ (kp c o L M N e)
def ybn{z TI TO T g l l1 l2:Addr}{F:Bool}{r G:Nat}{t H:Array Value}{Q:Option Value->Shared->Prop}(u:A.handled=none)(D:ZA z TI g l l1 l2)(m:IsZ2 s.heap z TI TO T F)(I:∃o,s.heap.get? T=some o)(n:IsPair s.heap TI (.ref g) (.ref l))
 (J:s.heap.IsListIter g l1 r)(U:s.heap.IsListIter l l2 G)(p:s.heap.IsList l1 t)(K:s.heap.IsList l2 H)(L:t[r]? = none)
 (M:∀v,(∀c o,c≠z->c≠g->c≠l->s.heap.get? c=some o->v.get? c=some o)->Q none {s with heap:=v}):wpAny (model prog w) A (pyNext (.ref z)) Q E s:=by
 have h:s.TypeIs (.ref z) "zip" := ⟨_,m,rfl⟩;unfold pyNext;refine Zd (Ve (wpAny_callSpecial?_slot (name:=Str.ofString "__next__") h Qo (Q3 Qo h J1 ?_ (Jw _))));show wpAny _ _ (field (.ref z) 2 >>= _) _ _ _;refine Zd (Wg m rfl (x:=.bool false) rfl ?_);show wpAny _ _ (field (.ref z) 3 >>= _) _ _ _;refine Zd (Wg m rfl (x:=.ref TI) rfl ?_);refine Zd (Wo n rfl ?_);show wpAny _ _ (Builtin.SmallTypes.ownedTupleIsFree (.ref z) >>= _) _ _ _;refine Zd (zsa m I λB q d=>?_);simp only[Wf,if_false];refine Zd ?_;rw[<-Gw];simp only[K7,Uh];refine Zd (Zd (W7 ?_));show wpAny _ _ (Builtin.SmallTypes.nextOf (.ref g) >>= _) _ _ _;refine Zd (Bd (by first|exact u|simp[u]) (J.extBut d.extBut D.i1z) (p.extBut d.extBut D.l1z) L λC e f N=>?_);obtain⟨o,O,P⟩:=N
 refine Zd (wpAny_isInstance (T := "StopIteration") (b:=true) ⟨o,O,P⟩ isSubtype_stop ?_);exact Zs (M _ λc o R S V e=>f _ _ S (d.extBut _ _ R e))
def zrb(h:Heap)(d e:Array Value)(f:List Addr):Prop:=∀(j:Nat) (t:Addr),f[j]? = some t->∃x y,d[j]? = some x/\e[j]? = some y/\IsPair h t x y
def ybm{R:Result->Shared->Prop}{S z TI TO u v l1 l2:Addr}{m O:Array Value}(res:Value)(hh:A.in1.handled=none)(D:ZA z TI u v l1 l2)(a8:m.size=O.size)(hz:m.size<=sizeLine)(hS:∀b∈[z,TI,TO,u,v,l1,l2],S≠b):
  ∀(k i:Nat) (s:Shared) (d:Array Value) (c:Nat) (g:List Addr) (T:Addr) (f1:Bool),m.size-i=k->i<=m.size->IsZ2 s.heap z TI TO T f1->T∈g->IsPair s.heap TI (.ref u) (.ref v)->s.heap.IsListIter u l1 i->s.heap.IsListIter v l2 i->s.heap.IsList l1 m->s.heap.IsList l2 O ->
   s.heap.get? S=some {cls:=.type "list",dict:=none,data:=.seq d c,slots:=#[]}->d.toList=g.map Value.ref->g.length=i->zrb s.heap m O g->(∀t∈g,t≠z/\t≠u/\t≠v/\t≠S)->g.Nodup ->
   (∀p tk h c' f,(∀b o,b≠S->b≠z->b≠u->b≠v->s.heap.get? b=some o->p.get? b=some o)->p.get? S=some {cls:=.type "list",dict:=none,data:=.seq h c',slots:=#[]}->h.toList=f.map Value.ref->f.length=m.size->zrb p m O f->(∀t∈f,t∈g\/s.heap.objs.size<=t)->f.Nodup->R (.ok (.ret res)) {s with heap:=p,toks:=tk}) ->
   codeAny (model prog w) A (.builtin "list.extend.loop" ⟨[.ref S,.ref z,res],[]⟩) R s:=by
 intro k;have sz:S≠z:=hS z vC;have s1:S≠u:=hS u vC;have s2:S≠v:=hS v vC;have sT:S≠TI:=hS TI vC;have sl1:S≠l1:=hS l1 vC;have sl2:S≠l2:=hS l2 vC;induction k with
 |zero=>
  intro i s d c g T f1 hk hi Y Z B h1 h2 C E F G l P H L hR;have e:i=m.size:=by omega
  subst e;refine Kw Ux ?_;rw[Qi Qz _];show wpAny _ A.in1 (pyNext (.ref z) >>= _) _ _ s;have aT:∃o,s.heap.get? T=some o:=by
   obtain⟨j,Q⟩:=Wn Z
   obtain⟨x,y,_,_,e⟩:=P j T Q
   exact⟨_,e⟩
  refine Zd (ybn hh D Y aT B h1 h2 C E vC λp r=>?_);exact Zs (hR p s.toks d c g (λb o _ b2 b3 b4 e=>r b o b2 b3 b4 e) (r S _ sz s1 s2 F) G l (λj t e=>by
   obtain⟨x,y,U,V,M⟩:=P j t e
   obtain⟨t1,t2,t3,_⟩:=H t (Yr e)
   exact⟨x,y,U,V,r t _ t1 t2 t3 M⟩) (λt I=>.inl I) L)
 |succ k ih=>
  intro i s d c g T f1 hk hi Y Z B h1 h2 C E F G l P H L hR;have N:i<m.size:=by omega
  refine Kw Ux ?_;rw[Qi Qz _];show wpAny _ A.in1 (pyNext (.ref z) >>= _) _ _ s;have aT:∃o,s.heap.get? T=some o:=by
   obtain⟨j,Q⟩:=Wn Z
   obtain⟨x,y,_,_,e⟩:=P j T Q
   exact⟨_,e⟩
  have hx:m[i]? = some (m[i]'N):=Qg N;have hy:O[i]? = some (O[i]'vB):=Qg vB;refine Zd (zvd D Y aT B h1 h2 C E hx hy λp a1 a2 a3 a4 a5 r=>?_);have W:=r S _ sz s1 s2 F;have X:d.size=i:=by
   have:=congrArg List.length G
   rw[Qp,Zc,l] at this;exact this
  have K:S<s.heap.objs.size:=Zo F;show wpAny _ A.in1 (updateSeq S (·.push (.ref s.heap.objs.size)) >>= _) _ _ _;have up:∀b o,b≠S->p.get? b=some o->(p.update S (Obj.mapSeq (·.push (.ref s.heap.objs.size)))).get? b=some o:=λb o hb e=>(Yq _ _ (Wz hb)).trans e
  have J:∀{b o},s.heap.get? b=some o->b≠s.heap.objs.size:=λe=>Yi (Zo e)
  refine Zd ?_;refine Kd W rfl (Zs ⟨Kv Qz _,ih (i+1) _ (d.push (.ref s.heap.objs.size)) _ (g++[s.heap.objs.size]) T true vB N (up z _ (Wz sz) a1) (Kb _ Z) (up TI _ (Wz sT) (r TI _ D.TIz D.TIi1 D.TIi2 B)) (a2.at λo e=>up u o (Wz s1) e) (a3.at λo e=>up v o (Wz s2) e)
   (C.at λo e=>up l1 o (Wz sl1) (r l1 o D.l1z D.l1i1 D.l1i2 e)) (E.at λo e=>up l2 o (Wz sl2) (r l2 o D.l2z D.l2i1 D.l2i2 e)) (Ws _ W rfl) ?_ (by rw[Z5,l];rfl) ?_ ?_ ?_ ?_⟩) (by rw[X];omega) (by show(d.push _).size<=sizeLine+1;rw[Array.size_push,X];omega)
  ·rw[Array.toList_push,G,Y3];rfl
  ·intro j t e;rcases Yf j g.length with q|q
   ·rw[Ya q] at e;obtain⟨x,y,U,V,M⟩:=P j t e
    obtain⟨t1,t2,t3,t4⟩:=H t (Yr e)
    exact⟨x,y,U,V,up t _ t4 (r t _ t1 t2 t3 M)⟩
   ·rw[Yd q] at e;have e0:j-g.length=0:=by
     cases q2:j-g.length with
     |zero=>rfl
     |succ n=>rw[q2] at e;simp at e
    rw[e0] at e;simp at e
    subst e;have ej:j=i:=by omega
    subst ej;exact⟨_,_,hx,hy,up _ _ (Z8 K) a4⟩
  ·intro t I;rcases Y6.mp I with I|I
   ·exact H t I
   ·rw[Zp.mp I];refine⟨(J Y).symm,?_,?_,(Z8 K)⟩
    ·obtain⟨_,e,_⟩:=h1;exact(J e).symm
    ·obtain⟨_,e,_⟩:=h2;exact(J e).symm
  ·refine U0.mpr ⟨L,Wj _ _,λa ha b hb e=>?_⟩;rw[Zp.mp hb] at e;obtain⟨j,Q⟩:=Wn ha
   obtain⟨x,y,_,_,M⟩:=P j a Q
   exact J M e
  ·intro a0 tk h c' f a6 U V M e4 e5 e6;have a7:(p.update S (Obj.mapSeq (·.push (.ref s.heap.objs.size)))).objs.size=s.heap.objs.size+1:=by rw[Km,a5]
   refine hR a0 tk h c' f (λb o b1 b2 b3 b4 e=>a6 b o b1 b2 b3 b4 (up b o b1 (r b o b2 b3 b4 e))) U V M e4 (λt I=>?_) e6;rcases e5 t I with q|q
   ·rcases Y6.mp q with q|q
    ·exact .inl q
    ·exact .inr (by rw[Zp.mp q];exact Zl _)
   ·exact .inr (by
     have q':(p.update S (Obj.mapSeq (·.push (.ref s.heap.objs.size)))).objs.size<=t:=q;rw[a7] at q';exact Nat.le_of_succ_le q')
def ztj:typeLookup (.type "zip") "__len__" = pure none:=by rw[typeLookup_type,Bf];kernel_rfl
def zov:typeLookup (.type "zip") "__length_hint__" = pure none:=by rw[typeLookup_type,Bf];kernel_rfl
def ane{a b:Nat}(h:a≠b):@Ne Addr a b:=h
def za_of{n l1 l2:Nat}(d:l1<n)(e:l2<n):ZA (n+4) (n+2) n (n+1) l1 l2:=by
 refine⟨?_,?_,?_,?_,?_,?_,?_,?_,?_,?_,?_,?_⟩<;>exact ane vB
def ygt{n l1 l2:Nat}(d:l1<n)(e:l2<n):ZipApart (n+4) (n+2) (n+3) n (n+1) l1 l2:=by
 refine⟨?_,?_,?_,?_,?_,?_,?_,?_,?_,?_,?_,?_,?_,?_,?_,?_,?_,?_⟩<;>exact ane vB
def zmd{z TI TO G H l1 l2:Addr}{u W:Array Value}{Q:Value->Shared->Prop}(hh:A.handled=none)(D:ZA z TI G H l1 l2)(g:ZipApart z TI TO G H l1 l2)(ag:u.size=W.size)(hz:u.size<=sizeLine)
 (hZ:IsZip s.heap z TI TO .none)(X:IsPair s.heap TI (.ref G) (.ref H))(Y:IsPair s.heap TO .none .none)(h1:s.heap.IsListIter G l1 0)(h2:s.heap.IsListIter H l2 0)(Z:s.heap.IsList l1 u)(a0:s.heap.IsList l2 W)
 (hQ:∀l tk a7 c ts,(∀b o,b≠z->b≠TO->b≠G->b≠H->s.heap.get? b=some o->l.get? b=some o)->l.get? s.heap.objs.size=some {cls:=.type "list",dict:=none,data:=.seq a7 c,slots:=#[]}->a7.toList=ts.map Value.ref->ts.length=u.size->zrb l u W ts->(∀t∈ts,s.heap.objs.size<t)->ts.Nodup->Q (.ref s.heap.objs.size) {s with heap:=l,toks:=tk}):
  wpAny (model prog w) A (call (.type "list") [.ref z]) Q E s:=by
 have f:∀{b o},s.heap.get? b=some o->b<s.heap.objs.size:=λe=>Zo e
 have B:=f hZ;have L:=f X;have C:=f Y;have m:G<s.heap.objs.size:=by obtain⟨_,e,_⟩:=h1;exact f e
 have n:H<s.heap.objs.size:=by obtain⟨_,e,_⟩:=h2;exact f e
 have M:l1<s.heap.objs.size:=by obtain⟨_,e,_⟩:=Z;exact f e
 have N:l2<s.heap.objs.size:=by obtain⟨_,e,_⟩:=a0;exact f e
 refine callType_codes (Q₁:=λa8 I=>a8=.ref s.heap.objs.size/\I={s with heap:=s.heap.push {cls:=.type "list",data:=.seq #[]} }) F.called_list (F.typeCall_list_1 _) F.entry_list_init
  (code_list_new _ ⟨rfl,rfl⟩) λa8 I a9=>?_
 obtain⟨rfl,rfl⟩:=a9
 have hS:(s.heap.push {cls:=.type "list",data:=.seq #[]}).get? s.heap.objs.size=some {cls:=.type "list",data:=.seq #[]}:=Z0 _ rfl;refine⟨⟨_,hS,rfl⟩,F.args_list_init_2 _ _,?_⟩
 show wpAny _ A.in1.in1 (do let f <-Builtin.List.listItems (.ref s.heap.objs.size);Builtin.List.listUpdate (.ref s.heap.objs.size) (λ_=>#[]);letGo f.toList.reverse;Builtin.List.listExtendWith (.ref s.heap.objs.size) (.ref z) .none) _ _ _;refine Zd (listItems_at hS rfl ?_);refine Zd (Vf hS rfl ?_ (Yj _) (Yj _));have p:=Ws (Obj.mapSeq (λ_=>(#[]:Array Value))) hS rfl;have aa:((s.heap.push {cls:=.type "list",data:=.seq #[]}).update s.heap.objs.size (Obj.mapSeq (λ_=>(#[]:Array Value)))).objs.size=s.heap.objs.size+1:=by rw[Km,Qy]
 have O:∀b o,b<s.heap.objs.size->s.heap.get? b=some o->((s.heap.push {cls:=.type "list",data:=.seq #[]}).update s.heap.objs.size (Obj.mapSeq (λ_=>(#[]:Array Value)))).get? b=some o:=
  λb o v e=>(Yq _ _ (Z8 v)).trans (Ze _ e)
 refine Zd (Jl ?_);generalize ak:(s.heap.push {cls:=.type "list",data:=.seq #[]}).update s.heap.objs.size (Obj.mapSeq (λ_=>(#[]:Array Value)))=H1 at *;unfold Builtin.List.listExtendWith;have P:Shared.TypeIs {s with heap:=H1} (.ref z) "zip" := ⟨_,O z _ B hZ,rfl⟩;refine Zd (wpAny_typeOf P ?_);have n1:Builtin.List.listSameRef (.ref s.heap.objs.size) (.ref z)=false:=by simp[Builtin.List.listSameRef,Z8 B]
 rw[if_neg (by rw[n1];decide)];refine Zd (V1 (O z _ B hZ) ?_);refine Zd (W7 ?_);unfold Builtin.List.listLengthHint;refine Zd (wpAny_specialOf P ztj ?_);show wpAny _ _ (specialOf (Value.ref z) (Str.ofString "__length_hint__") >>= _) _ _ _;refine Zd (wpAny_specialOf P zov ?_);refine Zs ?_;show wpAny _ _ (rule "list.extend.makes-room" >>= λ_=>Builtin.List.listTouch (.ref s.heap.objs.size) >>= λ_=>again (.builtin "list.extend.loop" ⟨[.ref s.heap.objs.size,.ref z,.none],[]⟩)) _ _ _;refine Zd (Jx ?_);refine Zd ?_;show wpAny _ _ (updateSeq s.heap.objs.size (·.push .none) >>= λ_=>updateSeq s.heap.objs.size (·.pop)) _ _ _;refine Zd (Kd p rfl ?_);have r:=Ws (Obj.mapSeq (·.push Value.none)) p rfl;refine Kd (hz:=by seq_fits) r rfl ?_;have R:=Ws (Obj.mapSeq (·.pop)) r rfl;have d:∀b o,b<s.heap.objs.size->s.heap.get? b=some o->((H1.update s.heap.objs.size (Obj.mapSeq (·.push Value.none))).update s.heap.objs.size (Obj.mapSeq (·.pop))).get? b=some o:=
  λb o v e=>(Yq _ _ (Z8 v)).trans ((Yq _ _ (Z8 v)).trans (O b o v e))
 have ab:((H1.update s.heap.objs.size (Obj.mapSeq (·.push Value.none))).update s.heap.objs.size (Obj.mapSeq (·.pop))).objs.size=s.heap.objs.size+1:=by rw[Km,Km];exact aa
 generalize am:(H1.update s.heap.objs.size (Obj.mapSeq (·.push Value.none))).update s.heap.objs.size (Obj.mapSeq (·.pop))=H2 at *;have S0:∃c0,H2.get? s.heap.objs.size=some {cls:=.type "list",dict:=none,data:=.seq #[] c0,slots:=#[]}:=⟨_,R⟩;obtain⟨c0,S0⟩:=S0
 have z2:=d z _ B hZ;have S:=d TI _ L X;have ae:=d TO _ C Y;have g1:=h1.at λo e=>d G o m e
 have g2:=h2.at λo e=>d H o n e
 have T:=Z.at λo e=>d l1 o M e
 have U:=a0.at λo e=>d l2 o N e
 refine Zs ⟨Kv Qz _,Kw Ux ?_⟩;rw[Qi Qz _];show wpAny _ _ (pyNext (.ref z) >>= _) _ _ _;rcases Wv u.size with V|V
 ·refine Zd (wpAny_pyNext_zip_end (by simp[hh]) g z2 S ae g1 g2 T U (.inl (by simp[V])) λl J=>?_);exact Zs ⟨rfl,hQ l s.toks #[] c0 [] (λb o b1 b2 b3 b4 e=>J b o b1 b2 b3 b4 (d b o (f e) e)) (J _ _ (Z8 B) (Z8 C) (Z8 m) (Z8 n) S0) rfl (by rw[V];rfl) (λj t e=>by simp at e) (λt ht=>by cases ht) Vy⟩
 ·have hx:u[0]? = some (u[0]'V):=Qg V;have hy:W[0]? = some (W[0]'vB):=Qg vB;refine Zd (wpAny_pyNext_zip_item g z2 S ae g1 g2 T U hx hy λl a1 a2 a3 a4 a5 a6 J=>?_);replace a1:IsZ2 l z TI TO H2.objs.size false:=a1
  replace a5:IsPair l H2.objs.size (u[0]'V) (W[0]'vB):=a5
  replace a6:l.objs.size=H2.objs.size+1:=a6
  show wpAny _ _ (updateSeq s.heap.objs.size (·.push (.ref H2.objs.size)) >>= _) _ _ _;rw[ab] at a1 a5 a6 |-;have S1:=J _ _ (Z8 B) (Z8 C) (Z8 m) (Z8 n) S0;refine Zd ?_;have up:∀b o,b≠s.heap.objs.size->l.get? b=some o->(l.update s.heap.objs.size (Obj.mapSeq (·.push (.ref (s.heap.objs.size+1))))).get? b=some o:=λb o v e=>(Yq _ _ (Wz v)).trans e
  have K:∀{b:Addr},b<s.heap.objs.size->b≠s.heap.objs.size:=λh=>Yi h
  refine Kd S1 rfl (Zs ⟨Kv Qz _,ybm .none (by simp[hh]) D ag hz (λb v=>?_) (u.size-1) 1 _ _ _ [s.heap.objs.size+1] (s.heap.objs.size+1) false rfl V (up z _ (K B) a1) (.head _) (up TI _ (K L) (J TI _ g.TIz g.TITO g.TIi1 g.TIi2 S)) (a3.at λo e=>up G o (K m) e) (a4.at λo e=>up H o (K n) e)
   (T.at λo e=>up l1 o (K M) (J l1 o g.l1z g.l1TO g.l1i1 g.l1i2 e)) (U.at λo e=>up l2 o (K N) (J l2 o g.l2z g.l2TO g.l2i1 g.l2i2 e)) (Ws _ S1 rfl) rfl rfl (λj t e=>?_) (λt ht=>?_) (Wj _ _) λah tk af c' ai aj e1 e2 e3 e4 e5 e6=>?_⟩)
  ·simp only[Zg,Zu,or_false] at v;rcases v with e|e|e|e|e|e|e<;>rw[e]
   ·exact Z8 B
   ·exact Z8 L
   ·exact Z8 C
   ·exact Z8 m
   ·exact Z8 n
   ·exact Z8 M
   ·exact Z8 N
  ·cases j with
   |zero=>
    simp at e
    subst e;exact⟨_,_,hx,hy,up _ _ (Vi _) a5⟩
   |succ j=>simp at e
  ·rw[Zp.mp ht];exact⟨Z8 (Kx B),Z8 (Kx m),Z8 (Kx n),Vi _⟩
  ·refine⟨rfl,hQ ah tk af c' ai (λb o b1 b2 b3 b4 e=>aj b o (K (f e)) b1 b3 b4 (up b o (K (f e)) (J b o b1 b2 b3 b4 (d b o (f e) e)))) e1 e2 e3 e4 (λt ht=>?_) e6⟩
   rcases e5 t ht with q|q
   ·rw[Zp.mp q];exact Wx _
   ·have q':(l.update s.heap.objs.size (Obj.mapSeq (·.push (.ref (s.heap.objs.size+1))))).objs.size<=t:=q;rw[Km,a6] at q';exact Zf (Kx (Wx _)) q'
end
open PySem L2 PyProof.Rows
def updL(H:Hp):List (Addr×HO)->Hp
 |[]=>H
 |(a,o)::L=>upd (updL H L) a o
theorem zka{H:Hp}:∀{L:List (Addr×HO)}{a:Addr}{o:HO},updL H L a=some o->(a,o)∈L\/(H a=some o/\a∉L.map (·.1))
 |[],a,o,h=>.inr ⟨h,by simp⟩
 |(b,u)::L,a,o,h=>by
  unfold updL at h;by_cases e:a=b
  ·subst e;rw[Bv] at h;cases h;exact .inl (.head _)
  ·rw[Bt e] at h;rcases zka h with q|q
   ·exact .inl (.tail _ q)
   ·exact .inr ⟨q.1,by simp only[Zx,Zg,not_or];exact⟨e,q.2⟩⟩
theorem zck{H:Hp}:∀{L:List (Addr×HO)}{a:Addr},a∉L.map (·.1)->updL H L a=H a
 |[],_,_=>rfl
 |(b,u)::L,a,h=>by
  simp only[Zx,Zg,not_or] at h;unfold updL;rw[Bt h.1];exact zck h.2
theorem zvt{H:Hp}:∀{L:List (Addr×HO)}{a:Addr}{o:HO},(L.map (·.1)).Nodup->(a,o)∈L->updL H L a=some o
 |(b,u)::L,a,o,d,h=>by
  rw[Zx,W5] at d;unfold updL;rcases Zg.mp h with e|h
  ·cases e;rw[Bv]
  ·have g:a≠b:=λe=>d.1 (e ▸ Yx (f:=(·.1)) h)
   rw[Bt g];exact zvt d.2 h
section
variable{X:Cx}{pins:List (Addr×Obj)}{σ:L2.St}{H:Hp}{s:Shared}{h':Heap}
def Inv.laidL{t':Nat}{L:List (Addr×HO)}(I:L2.Inv X pins σ H s)(k:∀b u,s.heap.get? b=some u->h'.get? b=some u)(m:∀p∈L,s.heap.objs.size<=p.1)(h:∀p∈L,ObjOk X.prog X.w (updL H L) h' p.1 p.2):
  L2.Inv X pins σ (updL H L) {s with heap:=h',toks:=t'}:=by
 have g:∀b,(∃u,s.heap.get? b=some u)->b∉L.map (·.1):=λb ⟨u,e⟩ l=>by
  obtain⟨p,f,rfl⟩:=Zv.mp l
  exact Wq _ (Zf (Zo e) (m p f))
 have t:∀p∈L,H p.1=none:=λp f=>I.hok.fresh (m p f)
 have d:∀b u,H b=some u->updL H L b=some u:=λb u e=>by
  rw[zck λl=>by
   obtain⟨p,f,rfl⟩:=Zv.mp l
   rw[t p f] at e;cases e]
  exact e
 refine I.un (t':=t') ⟨λb u q _ _ _=>k b u q,λb u q _ _ _=>⟨u.slots,k b u q⟩,λb u q n _=>by rw[zck (g b ⟨u,q⟩)];exact n,λb u q _=>⟨u,k b u q⟩,λb r q=>d b _ q,λb u r q=>d b _ q,λb A q=>⟨#[],by rw[d b _ q];simp⟩⟩ λa o e=>?_;rcases zka e with q|⟨q,_⟩
 ·exact h _ q
 ·exact(I.hok a o q).stay (λc v _ z=>k c v z) (λc z=>d c _ z) λc r z=>d c _ z
end
section
variable{K:vE}{H0 Fc F H:Hp}{σ:L2.St}{ρ:Rho}
theorem ER.layL:∀(L:List (Addr×HO)),ER K H0 Fc F H σ ρ->(L.map (·.1)).Nodup->(∀p∈L,H p.1=none)->ER K H0 Fc (updL F L) (updL H L) σ ρ/\Same F (updL F L)
 |[],R,_,_=>⟨R,Same.refl _⟩
 |(a,o)::L,R,d,e=>by
  rw[Zx,W5] at d;obtain⟨f,g⟩:=ER.layL L R d.2 λp h=>e p (.tail _ h)
  obtain⟨R2,l⟩:=f.lay (a:=a) o (by rw[zck d.1];exact e (a,o) (.head _))
  exact⟨R2,g.trans l⟩
end
def zipD(a b:List D):List D:=(a.zip b).map λp=>D.tup [p.1,p.2]
def zipL(d:List Addr)(e:List (V×V)):List (Addr×HO):=(d.zip e).map λz=>(z.1,HO.tup [z.2.1,z.2.2])
def zrc{d:List Addr}{e:List (V×V)}(h:d.length=e.length):(zipL d e).map (·.1)=d:=by
 unfold zipL;rw[Ye];show(d.zip e).map (λz=>z.1)=d;exact List.map_fst_zip vB
theorem zzu{K:vE}{F:Hp}:∀{a b:List D}{f g:List V}{e:List Addr}{G:Hp},DenL K F a f->DenL K F b g->f.length=g.length->e.length=f.length->Same F G->(∀p∈zipL e (f.zip g),G p.1=some p.2)->DenL K G (zipD a b) (e.map V.ref)
 |[],b,f,g,e,G,m,n,h,l,s,o=>by
  have z:=m.inv_nil;subst z;have:e=[]:=Js.mp (by simpa using l)
  subst this;exact DenL.nil
 |d::a,b,f,g,e,G,m,n,h,l,s,o=>by
  obtain⟨v,I,z,q,r⟩:=m.inv_cons
  subst z;cases b with
  |nil=>rw[n.inv_nil] at h;cases h
  |cons J b=>
   obtain⟨u,w,A,B,C⟩:=n.inv_cons
   subst A;cases e with
   |nil=>cases l
   |cons t e=>
    have E:=o (t,HO.tup [v,u]) (.head _);refine DenL.cons (Den.tup_mk (SqT.of E) (DenL.cons (q.mono s) (DenL.cons (B.mono s) DenL.nil))) ?_;exact zzu r C (by simpa using h) (by simpa using l) s λp H=>o p (.tail _ H)
theorem zox:∀{d:List V}{f:List Value},Vals d f->∀(j:Nat) (u:Value),f[j]? = some u->∃x,d[j]? = some x/\RelV x u
 |[],_,h,j,u,e=>by cases h;simp at e
 |x::d,_,h,0,u,e=>by
  cases h with
  |cons g l=>simp at e;subst e;exact⟨x,rfl,g⟩
 |x::d,_,h,j+1,u,e=>by
  cases h with
  |cons g l=>
   obtain⟨y,m,n⟩:=zox l j u (by simpa using e)
   exact⟨y,by simpa using m,n⟩
theorem zrf:∀d:List Addr,Vals (d.map V.ref) (d.map Value.ref)
 |[]=>.nil
 |t::d=>.cons rfl (zrf d)
section
variable{X:Cx}
def ydy{a b:List D}(hX:X.calm=true)(a8:a.length=b.length):yik X (.type "list") (.type "zip") [.lst a,.lst b] (.new (zipD a b)):=by
 refine⟨λW H Q=>∃p q f g,W=[.ref p,.ref q]/\SqL X.K H p f/\SqL X.K H q g/\f.length=g.length/\∀(l:Addr) (d:List Addr),d.length=f.length->(l::d).Nodup->(∀t∈l::d,H t=none)->Q (.ref l) (upd (updL H (zipL d (f.zip g))) l (.lst (d.map V.ref))),λN s σ H W us Q I r h=>?_,λH0 Fc H F σ ρ W Q R q k=>?_⟩
 ·obtain⟨p,q,f,g,rfl,Y,Z,a9,hq⟩:=h
  cases r with
  |cons r1 r=>
   cases r with
   |cons r2 r=>
    cases r;cases r1;cases r2;obtain⟨a6,v1,B,z1⟩:=I.list Y
    obtain⟨a7,v2,C,z2⟩:=I.list Z
    have n1:=v1.length;have n2:=v2.length;have lp:p<s.heap.objs.size:=by obtain⟨o,ho,_⟩:=B.isList;exact Zo ho
    have lq:q<s.heap.objs.size:=by obtain⟨o,ho,_⟩:=C.isList;exact Zo ho
    refine call_zip_2 B.isList C.isList λE g1 g2 g3 g4 g5 g6 G=>?_;refine zmd (s:={s with heap:=E}) (I.ok.hd hX) (za_of lp lq) (ygt lp lq) (by simp only[Zt];omega) (by simp only[Zt];omega) g1 g2 g3 g4 g5 (B.isList.at λo e=>G _ o e) (C.isList.at λo e=>G _ o e) λS tk a0 c d a1 e1 e2 e3 e4 e5 e6=>?_;have aa:∀n:Nat,(s.heap.objs.size+n:Addr)≠s.heap.objs.size\/n=0:=λn=>by
     rcases Wv n with z|z
     ·exact .inr z
     ·exact .inl (ane vB)
    have le:s.heap.objs.size<=E.objs.size:=by rw[g6];exact Qw _ _
    have L:d.length=f.length:=by rw[e3,Zt,<-n1]
    have kp:∀b u,s.heap.get? b=some u->S.get? b=some u:=λb u e=>by
     have T:=Zo e;exact a1 b u (Yi (Zf T (Qw _ 4))) (Yi (Zf T (Qw _ 3))) (Yi T) (Yi (Kx T)) (G b u e)
    have O:∀t∈E.objs.size::d,s.heap.objs.size<=t:=λt J=>by
     rcases Zg.mp J with e|J
     ·rw[e];exact le
     ·exact Wc le (U6 (e5 t J))
    have M:(E.objs.size::d).Nodup:=W5.mpr ⟨λhm=>Wq _ (e5 _ hm),e6⟩;have zl:(f.zip g).length=f.length:=by rw[Jz];omega
    have m:(zipL d (f.zip g)).map (·.1)=d:=zrc (by rw[zl];exact L);have a2:∀t∈d,t∈(zipL d (f.zip g)).map (·.1):=λt J=>by rw[m];exact J
    show EP X N σ Q (.ref E.objs.size) {s with heap:=S,toks:=tk};refine⟨.ref E.objs.size,updL H ((E.objs.size,HO.lst (d.map V.ref))::zipL d (f.zip g)),Inv.laidL (t':=tk) I kp (λP A=>?_) (λP A=>?_),rfl,hq _ d L M λt J=>I.hok.fresh (O t J)⟩
    ·refine O _ ?_;rcases Zg.mp A with e|hm
     ·rw[e];exact .head _
     ·exact .tail _ (by rw[<-m];exact Yx hm)
    ·rcases Zg.mp A with e|hm
     ·rw[e];show ObjOk X.prog X.w _ S _ (.lst (d.map V.ref));refine⟨by rw[Zc,L];exact z1,d.map Value.ref,c,zrf d,?_⟩
      have:a0=(d.map Value.ref).toArray:=by apply K0.mp;rw[e2]
      rw[<-this];exact e1
     ·unfold zipL at hm;obtain⟨U,hz,e⟩:=Zv.mp hm
      obtain⟨j,hj⟩:=Wn hz
      rw[Kg] at hj;obtain⟨j1,j2⟩:=hj
      rw[Kg] at j2;obtain⟨x,y,x1,x2,x3⟩:=e4 j U.1 j1
      obtain⟨vx,ex,rx⟩:=zox v1 j x (by simpa using x1)
      obtain⟨vy,ey,ry⟩:=zox v2 j y (by simpa using x2)
      rw[j2.1] at ex;rw[j2.2] at ey;cases ex;cases ey;rw[<-e];show ObjOk X.prog X.w _ S U.1 (.tup [U.2.1,U.2.2]);exact⟨by show 2<=sizeLine;decide,[x,y],.cons rx #v[ry],_,x3,rfl,0,rfl⟩
 ·obtain⟨v,u,e,q1,q2⟩:=q.two
  obtain⟨p,f,e1,a3,d1⟩:=q1.lst
  obtain⟨p2,g,e2,a4,d2⟩:=q2.lst
  rw[e1,e2] at e;have l1:=d1.length;have l2:=d2.length;refine⟨p,p2,f,g,e,R.sub.seq a3,R.sub.seq a4,by omega,λl d L M hn=>?_⟩
  rw[W5] at M;have zl:(f.zip g).length=f.length:=by rw[Jz];omega
  have m:(zipL d (f.zip g)).map (·.1)=d:=zrc (by rw[zl];exact L);have a5:∀P∈zipL d (f.zip g),H P.1=none:=λP A=>hn _ (.tail _ (by rw[<-m];exact Yx A))
  obtain⟨R1,s1⟩:=ER.layL (zipL d (f.zip g)) R (by rw[m];exact M.2) a5
  have hl:updL H (zipL d (f.zip g)) l=none:=by
   rw[zck (by rw[m];exact M.1)];exact hn l (.head _)
  obtain⟨R4,hF,h0⟩:=R1.put (.lst (d.map V.ref)) hl
  refine k _ _ _ s1 R4 (RW.n hF h0 Bv ?_);exact zzu d1 d2 vB L s1 λP A=>zvt (by rw[m];exact M.2) A
end
open PySem L2 PyProof.Rows
section
variable{prog:Program}{w:World}{A:Around}{E:Value->Shared->Prop}{s:Shared}
end
section
variable{X:Cx}{pos:Pos}
end
open PySem L2 PyProof.Rows
open PySem.SeqAt (EqAt)
def LtAt(A:Around)(s:Shared)(y x:Value)(b:Bool):Prop:=
 ∀(d:Program) (w:World) (E:Value->Shared->Prop) (Q:Value->Shared->Prop),Q (.bool b) s->wpAny (model d w) A (richCompare .Lt y x) Q E s
def fstD(d e f g:Bool):Bool:=if d=true then(if f=true then false else g) else e
def two_lt{l b:Addr}{t p u q:Value}{n n2:Nat}{dd dd2:Option Addr}{sl sl2:Array (Option Value)}(m C r D:Bool):
  Meets (Builtin.«tuple.__lt__» ⟨[.ref l,.ref b],[]⟩)
   (λA R s=>s.heap.get? l=some {cls:=.type "tuple",dict:=dd,data:=.seq #[t,p] n,slots:=sl}/\s.heap.get? b=some {cls:=.type "tuple",dict:=dd2,data:=.seq #[u,q] n2,slots:=sl2} /\
    EqAt A.in1 s t u m/\(m=false->LtAt A.in1 s t u C)/\(m=true->EqAt A.in1 s p q r/\(r=false->LtAt A.in1 s p q D)) /\
    R (.ok (.ret (.bool (fstD m C r D)))) s):=
 .of_wp λe w A R s h=>by
  obtain⟨E,g,d,F,os⟩:=s;obtain⟨G,H,I,J,v,h⟩:=h
  have M:=AutoSeq1.sub_tuple_tuple;wp_walk using Vj G,Vj H,wpAny_forIn_list _ (λrest b z=>b.1=none/\z=⟨E,g,d,F,os⟩ /\
   ((rest=[(t,u),(p,q)])\/(rest=[(p,q)]/\m=true)\/(rest=[]/\m=true/\r=true))) _
  case turn=>
   rintro⟨y,x⟩ rest b z ⟨o,rfl,f⟩
   rcases f with f|⟨f,B⟩|⟨f,_⟩
   ·cases f;refine Zd (I e w _ _ ?_);cases m with
    |true=>wp_walk;exact⟨rfl,rfl,.inr (.inl ⟨rfl,rfl⟩)⟩
    |false=>
     refine Zd (Jx (Zd (J rfl e w _ _ ?_)));wp_walk
     exact⟨_,rfl,h⟩
   ·cases f;subst B;obtain⟨v,K⟩:=v rfl
    refine Zd (v e w _ _ ?_);cases r with
    |true=>wp_walk;exact⟨rfl,rfl,.inr (.inr ⟨rfl,rfl,rfl⟩)⟩
    |false=>
     refine Zd (Jx (Zd (K rfl e w _ _ ?_)));wp_walk
     exact⟨_,rfl,h⟩
   ·cases f
  case fin=>
   rintro⟨N,O⟩ z ⟨o,rfl,f⟩
   simp only at o
   subst o;rcases f with f|⟨f,_⟩|⟨_,B,L⟩
   ·cases f
   ·cases f
   ·subst B;subst L;wp_walk
    exact⟨_,rfl,h⟩
  case h=>exact⟨rfl,rfl,.inl rfl⟩
def Reads.tup2{h:Heap}{v:Value}{x y:PyData}{g:List Addr}(r:Reads h v (.tuple [x,y]) g):∃l o u w n m p,v=.ref l/\h.get? l=some o/\o.cls=.type "tuple" /\ o.data=.seq #[u,w] n/\Reads h u x m/\Reads h w y p:=by
 cases r with
 |tuple q s t f=>
  rename_i a o z n;generalize e:z.toList=C at f;cases f with
  |cons A d=>
   cases d with
   |cons d B=>
    cases B;skip
    refine⟨a,o,_,_,n,_,_,rfl,q,s,?_,A,d⟩
    rw[t];congr 1
    exact K0.mp (by rw[e])
section
variable{A:Around}{s:Shared}
def yme{i j:Int}{t u:Tok}:LtAt A s (.int i t) (.int j u) (decide (i<j)):=λd w E Q h=>(PyProof.Rows.lt_int h:wpAny (model d w) A (compareOp .Lt (.int i t) (.int j u)) Q E s)
def lt_tup{v u:Value}{t z B C:PyData}{d e:List Addr}{f g m o:Bool}(S:Reads s.heap v (.tuple [t,z]) d)(T:Reads s.heap u (.tuple [B,C]) e)(U:A.units<cLine)
 (D:∀v u d e,Reads s.heap v t d->Reads s.heap u B e->EqAt A.in1 s v u f/\LtAt A.in1 s v u g)(G:∀v u d e,Reads s.heap v z d->Reads s.heap u C e->EqAt A.in1 s v u m/\LtAt A.in1 s v u o):LtAt A s v u (fstD f g m o):=by
 intro H w E Q h;obtain⟨l,⟨V,W,data,X⟩,Z,p1,n,_,_,rfl,I,J,K,L,M⟩:=Reads.tup2 S
 obtain⟨b,⟨N,r,data2,sl2⟩,q0,q1,Y,_,_,rfl,O,p,q,P,R⟩:=Reads.tup2 T
 simp only at J K p q
 subst J K p q;exact richCompare_meets_room (op:=.Lt) ⟨_,I,rfl⟩ ⟨_,O,rfl⟩ F.slot_tuple_lt F.entry_tuple_lt (F.args_tuple_lt_2 _ _) (two_lt (dd:=W) (dd2:=r) (sl:=X) (sl2:=sl2) (n:=n) (n2:=Y) f g m o)
  ⟨I,O,(D _ _ _ _ L P).1,λ_=>(D _ _ _ _ L P).2,λ_=>⟨(G _ _ _ _ M R).1,λ_=>(G _ _ _ _ M R).2⟩,show Value.bool (fstD f g m o)≠Value.notImplemented/\Q (.bool (fstD f g m o)) s from⟨(λx=>nomatch x),h⟩⟩ U
def lt2(a c b d:Int):Bool:=fstD (a == b) (decide (a<b)) (c == d) (decide (c<d))
abbrev pd2(a c:Int):PyData:=.tuple [.int a,.int c]
def lt_pd2{v u:Value}{a c b d:Int}{e f:List Addr}(l:Reads s.heap v (pd2 a c) e)(m:Reads s.heap u (pd2 b d) f)(n:A.units<cLine):LtAt A s v u (lt2 a c b d):=by
 refine lt_tup l m n (λv u e f g h=>?_) λv u e f g h=>?_
 all_goals
  cases g;cases h
  exact⟨SeqAt.EqAt.int_int _ _ _ _,yme⟩
end
def tupO:D->Option (List D)
 |.tup l=>some l
 |_=>none
def intO:D->Option Int
 |.int i=>some i
 |_=>none
def twoO:List D->Option (D×D)
 |[a,b]=>some (a,b)
 |_=>none
def prI(d:D):Option (Int×Int):=(tupO d).bind λl=>(twoO l).bind λp=>(intO p.1).bind λa=>(intO p.2).map λc=>(a,c)
def tupO_s{d:D}{l:List D}(h:tupO d=some l):d=.tup l:=by cases d<;>first|(cases h;rfl)|(cases h;done)
def yhr{d:D}{i:Int}(h:intO d=some i):d=.int i:=by cases d<;>first|(cases h;rfl)|(cases h;done)
def twoO_s{l:List D}{p:D×D}(h:twoO l=some p):l=[p.1,p.2]:=by
 cases l with
 |nil=>cases h
 |cons a l=>
  cases l with
  |nil=>cases h
  |cons b l=>
   cases l with
   |nil=>cases h;rfl
   |cons _ _=>cases h
def prI_s{d:D}{x:Int×Int}(h:prI d=some x):d=.tup [.int x.1,.int x.2]:=by
 obtain⟨l,e,h⟩:=Za.mp h
 obtain⟨p,f,h⟩:=Za.mp h
 obtain⟨a,g,h⟩:=Za.mp h
 obtain⟨c,m,h⟩:=Zb.mp h
 rw[tupO_s e,twoO_s f,yhr g,yhr m,<-h]
def nst(d:D):Option (Int×Int):=prI d
def ltN(x y:D):Bool:=match nst x,nst y with
 |some p,some q=>lt2 p.1 p.2 q.1 q.2
 |_,_=>false
def yls{x:D}{p:Int×Int}(h:nst x=some p):toP x=pd2 p.1 p.2/\dOk 49 x=true:=by
 rw[prI_s h];exact⟨by simp[toP,toPs],by simp[dOk,dOkL]⟩
def lt_nst{A:Around}{s:Shared}{v u:Value}{x y:D}{p q:Int×Int}{l m:List Addr}(d:nst x=some p)(f:nst y=some q)(g:Reads s.heap v (toP x) l)(h:Reads s.heap u (toP y) m)(n:A.units+8<cLine):LtAt A s v u (ltN x y):=by
 have e:ltN x y=lt2 p.1 p.2 q.1 q.2:=by unfold ltN;rw[d,f]
 rw[e];rw[(yls d).1] at g;rw[(yls f).1] at h;exact lt_pd2 g h vB
open PySem L2 PyProof.Rows
open PySem.SeqAt (EqAt)
def Ext(h d:Heap):Prop:=∀b o,h.get? b=some o->d.get? b=some o
section
variable{prog:Program}{w:World}{A:Around}{E:Value->Shared->Prop}{R:Result->Shared->Prop}{h₀:Heap}{I S l:Addr}{vs:List Value}
def zqj{h h':Heap}{f:Obj->Obj}(k:Ext h₀ h)(hS:h₀.get? S=none):Ext h₀ (h.update S f):=λb o e=>
 (Yq _ _ (λz:S=b=>by rw[z,e] at hS;cases hS)).trans (k b o e)
def zqk{h d:Heap}(k:Ext h₀ h)(f:h₀.get? I=none)(g:∀b o,b∉[I]->h.get? b=some o->d.get? b=some o):Ext h₀ d:=λb o e=>
 g b o (λz=>by rw[Zp.mp z,f] at e;cases e) (k b o e)
def ymb(Y:A.handled=none)(t:Nat->Nat->Bool)(H:h₀.IsList l vs.toArray)(J:h₀.get? I=none)(hS:h₀.get? S=none)(u:S≠I)
 (B:∀i j M N (s:Shared),Ext h₀ s.heap->vs[i]? = some M->vs[j]? = some N->LtAt A.in1 s M N (t i j)):
  ∀(k j:Nat) (s:Shared) (g:Value) (c:Nat),vs.length-(j+1)=k->j+1<=vs.length->s.heap.IsListIter I l (j+1)->Ext h₀ s.heap->vs[argBest t j]? = some g ->
   s.heap.get? S=some (seqObj "list" #[g,g] c) ->
   (∀v h C,vs[argBest t (vs.length-1)]? = some v->Ext h₀ h->R (.ok (.ret v)) {s with heap:=h,toks:=C}) ->
   codeAny (model prog w) A (.builtin "min.loop" ⟨[.ref I,.none,.ref S],[]⟩) R s:=by
 have O:(toString "min" ++ toString ".loop" : String) = "min.loop" := by decide
 have Z:l≠I:=λz=>by
  obtain⟨o,q,_⟩:=H
  rw[z,J] at q;cases q
 have W:=Walks.list (prog:=prog) (w:=w) (A:=A.in1) Y I l Z vs.toArray;have P:vs.toArray.size=vs.length:=Zt ..;have Q:S∉[I]:=by simpa using u
 intro k;induction k with
 |zero=>
  intro j s g c hk hj K D F E G;have T:j+1=vs.length:=by omega
  refine Kw Vv ?_;rw[Qi Q0 _];show wpAny _ A.in1 (seqItems? (.ref S) >>= _) _ _ s;refine Zd (Wo E rfl ?_);show wpAny _ A.in1 (tryCatch (pyNext (.ref I)) _ >>= _) _ _ s;refine Zd (Uy (W.done s _ _ ⟨by rw[P,<-T];exact K,H.at λo q=>D _ _ q⟩ λh C d=>?_));show wpAny _ A.in1 (updateSeq S (λ_=>#[]) >>= _) _ _ _;refine Zd (Kd (d S _ Q E) rfl (Zd (Jl (Zs ?_))));exact G g _ C (by rw[<-T];exact F) (zqj (h':=h) (zqk D J d) hS)
 |succ k U=>
  intro j s g c hk hj K D F E G;have m:j+1<vs.length:=by omega
  refine Kw Vv ?_;rw[Qi Q0 _];show wpAny _ A.in1 (seqItems? (.ref S) >>= _) _ _ s;refine Zd (Wo E rfl ?_);show wpAny _ A.in1 (tryCatch (pyNext (.ref I)) _ >>= _) _ _ s;refine Zd (Uy (W.item (j+1) s _ _ (by rw[P];exact m) ⟨K,H.at λo q=>D _ _ q⟩ λv h C hP V d=>?_));have X:vs[j+1]? = some v:=by simpa using hP
  have n:=zqk D J d;have p:=d S _ Q E;show wpAny _ A.in1 (tryCatch (holding [v,v] (richCompare .Lt v g >>= _)) _ >>= _) _ _ _;refine Zd (Uy (W7 (Zd (B (j+1) (argBest t j) v g {s with heap:=h,toks:=C} n X F prog w _ _ ?_))));refine Zd (W7 (Ki (Zd (Jl (Zs ?_)))));cases q:t (j+1) (argBest t j) with
  |true=>
   simp only[if_true];refine Zd (Kd p rfl (Zd (Jl ?_)));rw[O];refine Zs ⟨Kv Q0 _,U (j+1) _ v _ vB m (V.1.at λo e=>(Yq _ _ u).trans e) (zqj (h':=h) n hS) (by simp only[argBest,q,if_true];exact X) (get?_update_seq p λ_=>#[v,v]) λL r f=>G L r f⟩
  |false=>
   simp only[Wf,if_false];refine Zd (Jl ?_);rw[O];refine Zs ⟨Kv Q0 _,U (j+1) _ g c vB m V.1 n (by simp only[argBest,q,Wf,if_false];exact F) p λL r f=>G L r f⟩
def yed{s:Shared}(B:A.handled=none)(p:Nat->Nat->Bool)(r:h₀.IsList l vs.toArray)(t:h₀.get? I=none)(hS:h₀.get? S=none)(d:S≠I)(C:0<vs.length)
 (f:∀i j D E (s:Shared),Ext h₀ s.heap->vs[i]? = some D->vs[j]? = some E->LtAt A.in1 s D E (p i j))(J:s.heap.IsListIter I l 0)(F:Ext h₀ s.heap)(G:s.heap.get? S=some (seqObj "list" #[] 0))
 (K:∀v n H,vs[argBest p (vs.length-1)]? = some v->Ext h₀ n->R (.ok (.ret v)) {s with heap:=n,toks:=H}):codeAny (model prog w) A (.builtin "min.loop" ⟨[.ref I,.none,.ref S],[]⟩) R s:=by
 have L:(toString "min" ++ toString ".loop" : String) = "min.loop" := by decide
 have M:l≠I:=λz=>by
  obtain⟨o,q,_⟩:=r
  rw[z,t] at q;cases q
 have W:=Walks.list (prog:=prog) (w:=w) (A:=A.in1) B I l M vs.toArray;have N:vs.toArray.size=vs.length:=Zt ..;refine Kw Vv ?_;rw[Qi Q0 _];show wpAny _ A.in1 (seqItems? (.ref S) >>= _) _ _ s;refine Zd (Wo G rfl ?_);show wpAny _ A.in1 (tryCatch (pyNext (.ref I)) _ >>= _) _ _ s;refine Zd (Uy (W.item 0 s _ _ (by rw[N];exact C) ⟨J,r.at λo q=>F _ _ q⟩ λv n H O P g=>?_));have Q:vs[0]? = some v:=by simpa using O
 have h:=g S _ (by simpa using d) G;show wpAny _ A.in1 (updateSeq S (λ_=>#[v,v]) >>= _) _ _ _;refine Zd (Kd h rfl ?_);rw[L];exact Zs ⟨Kv Q0 _,ymb B p r t hS d f _ 0 _ v _ rfl C (P.1.at λo e=>(Yq _ _ d).trans e) (zqj (h':=n) (zqk F t g) hS) Q (get?_update_seq h λ_=>#[v,v]) λT u m=>K T u m⟩
def ymc{s:Shared}{Q:Value->Shared->Prop}(u:A.handled=none)(m:Nat->Nat->Bool)(p:s.heap.IsList l vs.toArray)(z:0<vs.length)
 (g:∀i j q r (t:Shared),Ext s.heap t.heap->vs[i]? = some q->vs[j]? = some r->LtAt A.in1 t q r (m i j))
 (B:∀v h n,vs[argBest m (vs.length-1)]? = some v->Ext s.heap h->Q v {s with heap:=h,toks:=n}):wpAny (model prog w) A (call (.builtin "min") [.ref l]) Q E s:=by
 have C:(toString "min" ++ toString ".loop" : String) = "min.loop" := by decide
 refine call_function_tree F.kind_min F.plain_min F.entry_min (F.args_min1 _) ?_;show wpAny _ A.in1 (Builtin.Builtins.bindParams "min" ["key","default"] 0 ⟨[],[]⟩ >>= _) _ _ s;refine Zd (wpAny_of_eq (show Builtin.Builtins.bindParams "min" ["key","default"] 0 ⟨[],[]⟩=pure [none,none] from rfl) ?_);refine Zd (Zs ?_);refine Zd (Vm p ?_);refine Zd (Gy ?_ (Yj _));rw[C];have up:∀d f,Ext s.heap ((s.heap.push d).push f):=λd f b x e=>Ze _ (Ze _ e)
 have D:s.heap.get? s.heap.objs.size=none:=Ue (Zl _);have G:∀o,s.heap.get? (s.heap.push o).objs.size=none:=λo=>Ue (by rw[size_push'];exact Ju _)
 have H:∀o,(s.heap.push o).objs.size≠s.heap.objs.size:=λo=>by rw[size_push'];exact Z8 (Wx _)
 exact Zs ⟨Kv Q0 _,yed u m p D (G _) (H _) z g ⟨_,Ze _ (Z0 _ rfl),rfl,rfl⟩ (up _ _) (Z0 _ rfl) λv h n a b=>B v h n a b⟩
end
section
variable{X:Cx}
def zum(l:List D):Nat:=argBest (λi j=>ltN (l.getD i .non) (l.getD j .non)) (l.length-1)
def minN(l:List D):Option D:=if (l.all λd=>(nst d).isSome)=true then l[zum l]? else none
def ylt{l:List D}(h:(l.all λd=>(nst d).isSome)=true){d:D}(e:d∈l):∃p,nst d=some p:=Vo.mp (Vb.mp h d e)
def yah(W:X.calm=true)(hu:X.A.units+64<cLine):zjx X (.builtin "min") (λR H Q=>∃a F t l r,R=[.ref a]/\Same F H/\SqL X.K F a t/\DenL X.K F l t/\minN l=some r/\∀v,Den X.K F r v->Q v H):=by
 intro pins s σ H R us Q I r ⟨a,F,t,l,d,e,S,Y,L,o,q⟩;subst e;obtain⟨u,e,Z⟩:=zkp r
 subst e;cases Z;obtain⟨g,M,pl,hz⟩:=I.list (S.seq Y)
 unfold minN at o;split at o
 ·rename_i w;have B:t.length=l.length:=L.length;have C:t.length=g.length:=M.length;have a0:zum l<l.length:=by
   rcases Yf (zum l) l.length with h|h
   ·exact h
   ·rw[Yn h] at o;cases o
  have T:∀i D,g[i]? = some D->∃m E p,l[i]? = some m/\nst m=some p/\Reads s.heap D (toP m) E:=λi D G=>by
   have a1:i<g.length:=(Zm.mp G).1;obtain⟨m,n⟩:∃m,l[i]? = some m:=⟨_,Zi vB⟩
   obtain⟨y,N,O⟩:=L.get n
   obtain⟨z,f,P⟩:=M.get N
   rw[G] at f;cases f;obtain⟨p,U⟩:=ylt w (Yr n)
   obtain⟨E,ra⟩:=zbt I S 49 m (yls U).2 O P
   exact⟨m,E,p,n,U,ra⟩
  refine ymc (I.ok.hd W) (λi j=>ltN (l.getD i .non) (l.getD j .non)) pl.isList vB (λi j D vj s' J G hj=>?_) λv h' tk V J=>?_
  ·obtain⟨m,E,p,h1,h2,h3⟩:=T i D G
   obtain⟨dj,bs,q,k1,k2,k3⟩:=T j vj hj
   rw[Z1,Z1,h1,k1];exact lt_nst h2 k2 (Reads.keeps J h3) (Reads.keeps J k3) (by rw[G7];omega)
  ·rw[<-C,B] at V;obtain⟨y,N,O⟩:=L.get o
   obtain⟨z,f,P⟩:=M.get N
   rw[show g[zum l]? = some v from V] at f;cases f;exact⟨y,H,I.kept J,P,q y O⟩
 ·cases o
def yfx{l:List D}{d:D}(f:X.calm=true)(g:X.A.units+64<cLine)(h:minN l=some d):zgw X (.builtin "min") [.lst l] (.val d):=⟨_,yah f g,λt u H F w z B Q R q k=>by
 obtain⟨v,e,q⟩:=q.one
 obtain⟨p,m,n,o,r⟩:=q.lst
 rw[n] at e;exact⟨p,F,m,l,d,e,R.sub,o,r,h,λv s=>k v H F (Same.refl _) R (RW.v s)⟩⟩
def idxD(l:List D)(y:D):Option Nat:=if (dOkL 49 l && dOk 50 y)=true then l.findIdx? (λd=>eqD d y) else none
def idxW:D->D->Option W
 |.lst l,y=>(idxD l y).map λ(k:Nat)=>W.val (.int (k:Int))
 |_,_=>none
theorem zta:∀{l:List D}{n:Nat}{d:D},dOkL n l=true->d∈l->dOk n d=true
 |d::l,n,e,h,f=>by
  simp only[dOkL,Zk] at h;rcases Zg.mp f with z|z
  ·rw[z];exact h.1
  ·exact zta h.2 z
def yec(hu:X.A.units+64<cLine):MtR X "list.index" (λx Z H Q=>∃a F C l y v k,x=.ref a/\Z=[v]/\Same F H/\SqL X.K F a C/\DenL X.K F l C/\Den X.K F y v/\idxD l y=some k/\Q (.int (k:Int)) H):=by
 intro pins s σ H x Z vv us Q I rx r ⟨a,F,C,l,y,v,k,e,e2,R,sq,dn,dy,N,q⟩;subst e;subst e2;obtain⟨u,e,r1⟩:=zkp r
 subst e;cases rx;obtain⟨f,rv,pl,hz⟩:=I.list (R.seq sq)
 unfold idxD at N;split at N
 ·rename_i p;rw[Zk] at p;obtain⟨⟨a4,dd,data,sl⟩,ho,hc,n,E⟩:=id pl.isList
  simp only at hc E
  subst hc E;have a0:C.length=l.length:=dn.length;have a3:C.length=f.length:=rv.length;obtain⟨bs,ry⟩:=zbt I R 50 y p.2 dy r1
  have S:∀i T,f[i]? = some T->∃d G,l[i]? = some d/\dOk 49 d=true/\Reads s.heap T (toP d) G:=λi T hi=>by
   have a5:i<f.length:=(Zm.mp hi).1;obtain⟨d,t⟩:∃d,l[i]? = some d:=⟨_,Zi vB⟩
   obtain⟨y,hy,qy⟩:=dn.get t
   obtain⟨z,J,rz⟩:=rv.get hy
   rw[hi] at J;cases J;have ok:=zta p.1 (Yr t);obtain⟨G,ra⟩:=zbt I R 49 d ok qy rz
   exact⟨d,G,t,ok,ra⟩
  obtain⟨U,O,h3⟩:=Ut.mp N
  classical
  let e:Value->Bool:=λz=>decide (∃(i:Nat) (d:D),f[i]? = some z/\l[i]? = some d/\eqD d y=true)
  have h:∀i z d,f[i]? = some z->l[i]? = some d->e z=eqD d y:=λi z d h1 O=>by
   obtain⟨d1,a6,P,g,w⟩:=S i z h1
   rw[O] at P;cases P;cases q:eqD d y with
   |true=>exact decide_eq_true ⟨i,d,h1,O,q⟩
   |false=>
    refine decide_eq_false λ⟨j,dj,k1,k2,k3⟩=>?_;obtain⟨d2,a7,g2,V,W⟩:=S j z k1
    rw[k2] at g2;cases g2;have:=(reads_det (λb o e _=>e) w W).1
    rw[<-zqm 49 50 d y g p.2,<-this,zqm 49 50 dj y V p.2,k3] at q;cases q
  have L:k<f.toArray.size:=by simp only[Zt];omega
  have M:∀m (B:m<f.toArray.size) (hl:m<l.length),e f.toArray[m]=eqD l[m] y:=λm B hl=>
   h m _ _ (by simp only[List.getElem_toArray];exact Zi (by simpa using B)) (Zi hl)
  refine call_meets Vn ⟨_,ho,rfl⟩ PySem.F.entry_list_index (PySem.F.args_list_index_2 _ _)
   (SeqAt.list_indexAt a f.toArray n dd sl u e k L ?_ ?_ ?_) ⟨ho,λz hz=>?_,?_⟩
  ·have:sizeLine<2^63-1:=by decide
   omega
  ·rw[M k L U];exact O
  ·intro m B Y;rw[M m B vB];simpa using h3 m Y
  ·obtain⟨m,B,ez⟩:=Qr (Uc.mpr hz)
   have gz:f[m]? = some z:=by rw[<-ez];exact Zi B
   obtain⟨d,G,P,g,w⟩:=S m z gz
   rw[h m z d gz P,<-zqm 49 50 d y g p.2];obtain⟨a1,b1⟩:=zuq 49 d g
   obtain⟨a2,b2⟩:=zuq 50 y p.2
   exact SeqAt.eqAt_reads (toP d) (toP y) X.A.in1 s z u G bs w ry a1 a2 (by rw[G7];have:=Nat.min_le_left (toP d).depth (toP y).depth;omega)
  ·exact⟨.int (k:Int),H,I.tok _,⟨_,rfl⟩,q⟩
 ·cases N
def DE.idx{d:Rho}{x:Str}{p m n:Pos}{e:Expr}{l:List D}{y:D}{k:Nat}(C:X.A.units+64<cLine)(E:DF X (.Name x p) d (.lst l))(G:DF X e d y)(f:Br e=true)(I:(m.endLine == n.line)=true)(J:idxD l y=some k):
  DE X (.Call (.Attribute (.Name x p) "index" m) [e] [] n) d (.val (.int (k:Int))):=λo s=>
 PE.mono (ydq (T := "list") Jm Vn PySem.F.type_list_index (yec C) (E o s) (DA.cons G DA.nil f o s) (by rfl) (by rw[Bw f];rfl) I (Bw f) rfl) λZ H Q ⟨F,R,q⟩=>
  ⟨F,R,λv H1 K L t w=>by
   obtain⟨a,M,N,O,r⟩:=w.lst
   subst N;refine⟨.inl ⟨rfl,M,t.sub.seq O⟩,K,t,λvs P z B R2 S=>?_⟩
   obtain⟨u,U,V⟩:=S.one
   obtain⟨a',g,W,h,Y⟩:=(w.mono B).lst
   cases W;exact⟨a,z,g,l,y,u,k,rfl,U,R2.sub,h,Y,V,J,q _ P z (L.trans B) R2 RW.int⟩⟩
end
open PySem L2 PyProof.Rows
def zqd:List D->Option (List Int)
 |[]=>some []
 |.int i::l=>(zqd l).map λd=>i::d
 |_=>none
theorem zsk{K:vE}{F:Hp}:∀{l:List D}{f:List Int}{g:List V},zqd l=some f->DenL K F l g->g=f.map V.int
 |[],_,_,h,q=>by cases h;rw[q.inv_nil];rfl
 |d::l,f,_,h,q=>by
  obtain⟨v,p,e,m,n⟩:=q.inv_cons
  subst e;cases d<;>first|(cases h;done)|skip
  obtain⟨r,o,e⟩:=Zb.mp h
  subst e;rw[Zx,m.int,zsk o n]
theorem zoc:∀{f:List Int}{g:List Value},Vals (f.map V.int) g->∃d:List (Int×Tok),g=d.map (λp=>Value.int p.1 p.2)/\d.map (·.1)=f
 |[],_,h=>by cases h;exact⟨[],rfl,rfl⟩
 |i::f,_,h=>by
  cases h with
  |cons l m=>
   obtain⟨t,e⟩:=l
   obtain⟨d,n,o⟩:=zoc m
   subst e;subst n;subst o;exact⟨(i,t)::d,rfl,rfl⟩
section
variable{X:Cx}
def yes{d:List (Int×Tok)}:intItems d.toArray=(d.map λp=>Value.int p.1 p.2).toArray:=by
 unfold intItems;simp
end
def Inv.turnedN{X:Cx}{pins:List (Addr×Obj)}{σ:L2.St}{H:Hp}{s:Shared}{A:Heap}{B:List Addr}{p:Addr}{o:HO}{G:Nat}(I:Inv X pins σ H s)(l:∀b∈B,FpOk X pins H b)
 (k:∀b d,b∉B->s.heap.get? b=some d->A.get? b=some d)(E:s.heap.objs.size<=p)(C:ObjOk X.prog X.w (upd H p o) A p o):Inv X pins σ (upd H p o) {s with heap:=A,toks:=G}:=by
 have D:∀{b:Addr}{d:Obj},s.heap.get? b=some d->b≠p:=λh z=>by
  have:=Zo h
  subst z;exact absurd (Zf this E) (Wq _)
 have e:∀{b:Addr}{u:HO},H b=some u->b≠p:=λh z=>by
  subst z;rw[I.hok.fresh E] at h;cases h
 refine I.step (g':=s.gens) (d':=s.drawn) (ch:=B) (λb f=>⟨(l b f).2.2.2.1,(l b f).2.1,(l b f).2.2.2.2.1,(l b f).2.2.2.2.2⟩) (λb d _ _ g q _=>k b d g q) (λb d _ _ g q _=>⟨d.slots,k b d g q⟩)
  (λb d g q n=>by rw[Bt (D q)];exact n) (λb d g q=>⟨d,k b d g q⟩) (λb F q=>by rw[Bt (e q)];exact q) (λb d F q=>by rw[Bt (e q)];exact q)
  (λb L q=>⟨#[],by rw[Bt (e q),q];simp⟩) (λm t=>?_) (λb u q=>?_) I.bare
 ·obtain⟨d,J,K,q,r⟩:=t
  exact⟨d,J,K,k _ d (λf=>(l _ f).2.1 rfl) q,r⟩
 ·by_cases f:b=p
  ·subst f;rw[Bv] at q;cases q;exact C
  ·rw[Bt f] at q;refine(I.hok b u q).stay (λc v g z=>k c v (λt=>?_) z) (λc z=>by rw[Bt (e z)];exact z) λc F z=>by rw[Bt (e z)];exact z
   rcases g with z|z
   ·subst z;rw[(l _ t).1] at q;cases q
   ·rw[(l _ t).1] at z;cases z
def Inv.turnedF{X:Cx}{pins:List (Addr×Obj)}{σ:L2.St}{H:Hp}{s:Shared}{p:Heap}{l:List Addr}{t':Nat}(I:Inv X pins σ H s)(d:∀b∈l,FpOk X pins H b)(k:∀b t,b∉l->s.heap.get? b=some t->p.get? b=some t):Inv X pins σ H {s with heap:=p,toks:=t'}:=by
 refine I.step (g':=s.gens) (d':=s.drawn) (ch:=l) (λb g=>⟨(d b g).2.2.2.1,(d b g).2.1,(d b g).2.2.2.2.1,(d b g).2.2.2.2.2⟩) (λb o _ _ f e _=>k b o f e) (λb o _ _ f e _=>⟨o.slots,k b o f e⟩) (λ_ _ _ _ n=>n)
  (λb o f e=>⟨o,k b o f e⟩) (λ_ _ e=>e) (λ_ _ _ e=>e) (λb C e=>⟨#[],by rw[e];simp⟩) (λm h=>?_) (λb u e=>?_) I.bare
 ·obtain⟨o,w,A,B,r⟩:=h
  exact⟨o,w,A,k _ o (λg=>(d _ g).2.1 rfl) B,r⟩
 ·refine(I.hok b u e).stay (λc v f q=>k c v (λh=>?_) q) (λ_ q=>q) λ_ _ q=>q
  rcases f with z|z
  ·subst z;rw[(d _ h).1] at e;cases e
  ·rw[(d _ h).1] at z;cases z
def yfv:bootBuiltins "zip" = some (.type "zip"):=by decide +kernel
section
variable{X:Cx}{elts:List Expr}{x1:Nat}{tp:Pos}
end
open PySem L2 PyProof.Rows
def maxI:List Int->Option Int
 |[]=>none
 |[a]=>some a
 |a::l=>(maxI l).map λm=>if m<a then a else m
theorem zhh:∀{l:List Int}{m:Int},maxI l=some m->m∈l/\∀a∈l,a<=m
 |[],_,h=>by cases h
 |[a],m,h=>by cases h;exact⟨.head _,λb g=>by rw[Zp.mp g];exact G5 _⟩
 |a::b::l,m,h=>by
  unfold maxI at h;obtain⟨k,n,e⟩:=Zb.mp h
  obtain⟨o,f⟩:=zhh n
  by_cases z:k<a
  ·rw[if_pos z] at e;subst e;refine⟨.head _,λc d=>?_⟩
   rcases Zg.mp d with q|q
   ·omega
   ·have:=f c q;omega
  ·rw[if_neg z] at e;subst e;refine⟨.tail _ o,λc d=>?_⟩
   rcases Zg.mp d with q|q
   ·omega
   ·exact f c q
def zyl{l:List Int}{m M:Int}(h:maxI l=some m)(d:M∈l)(e:∀a,a∈l->a<=M):M=m:=by
 obtain⟨a,b⟩:=zhh h
 have:=b M d
 have:=e m a
 omega
section
variable{X:Cx}
def yaj(C:X.calm=true):zjx X (.builtin "max") (λw H Q=>∃a l m,w=[.ref a]/\SqL X.K H a (l.map V.int)/\maxI l=some m/\Q (.int m) H):=by
 intro pins s O H w P Q I r ⟨a,l,m,e,D,z,q⟩;subst e;obtain⟨u,e,E⟩:=zkp r
 subst e;cases E;obtain⟨F,G,pl,R⟩:=I.list D
 obtain⟨d,J,g⟩:=zoc G
 subst J;have L:s.heap.IsList a (intItems d.toArray):=by rw[yes];exact pl.isList
 have n:0<d.length:=by
  cases d with
  |nil=>subst g;cases z
  |cons x d=>exact Jg _
 refine max_intList (I.ok.hd C) L (by simpa using n) λv S T M k=>?_;obtain⟨t,ev⟩:=intItems_at M
 have A:=argBest_gt (numAt d.toArray) (d.toArray.size-1);subst ev;refine⟨.int m,H,I.kept k,⟨t,?_⟩,q⟩
 congr 1
 have B:argBest (λi j=>decide (numAt d.toArray i > numAt d.toArray j)) (d.toArray.size-1)<d.length:=by
  have:=A.1
  simp only[Zt] at this |-;omega
 have f:∀i (h:i<d.length),numAt d.toArray i=(d[i]).1:=λi h=>by simp[numAt,h]
 subst g;refine zyl z ?_ λb o=>?_
 ·rw[f _ B];exact Yx (Kk B)
 ·obtain⟨p,N,e⟩:=Zv.mp o
  obtain⟨i,h,g⟩:=Qr N
  subst g;subst e;have:=A.2 i (by simp only[Zt];omega)
  rw[f i h] at this;exact this
def yfy{l:List D}{d:List Int}{m:Int}(g:X.calm=true)(h:zqd l=some d)(n:maxI d=some m):zgw X (.builtin "max") [.lst l] (.val (.int m)):=⟨_,yaj g,λs t H F u w z Q R q k=>by
 obtain⟨v,e,q⟩:=q.one
 obtain⟨p,A,o,f,r⟩:=q.lst
 rw[o] at e;rw[zsk h r] at f;exact⟨p,d,m,e,R.sub.seq f,n,k _ H F (Same.refl _) R RW.int⟩⟩
end
def Itv(K:vE)(a:Addr)(d:List V):It:=
 ⟨λi H=>SqL K H a d/\∃x,d.reverse[i]? = some x,λi H x e=>e=H/\d.reverse[i]? = some x,λi H=>SqL K H a d/\d.length<=i⟩
def ybq{P:Program}{w:World}{K:vE}{Y:Expr}(a n:Addr)(l:List V):Turn P w K Y (Itv K a l) [n] n (λi h=>i<=l.length/\h.IsRevIter n a ((l.length:Int)-1-(i:Int))) where
 mem:=by simp
 obj:=λi h f b q=>by
  have e:b=n:=by simpa using q
  subst e;obtain⟨_,o,e,c,d⟩:=f
  exact⟨o,e,λv z=>by rw[d] at z;cases z⟩
 keep:=λi h A f k=>⟨f.1,f.2.at λo e=>k n vC o e⟩
 item:=by
  intro X C D F S i m s T H E I B f G;subst C D F;obtain⟨U,x,t⟩:=G
  obtain⟨Z,rv,p,hz⟩:=I.list U
  have J:i<l.length:=by have:=(Zm.mp t).1;rwa [Qq] at this
  rw[Gb J] at t;obtain⟨u,hu,ru⟩:=rv.get t
  obtain⟨L,M,f2,N,O,Q⟩:=B n vC
  have R:(l.length:Int)-1-(i:Int)=((l.length-1-i:Nat):Int):=by omega
  have g:=f.2;rw[R] at g;refine wpAny_pyNext_rev_item g p.isList (x:=u) (by simpa using hu) λA r sb=>?_;have I1:Inv X m T H {s with heap:=A}:=I.turned (t':=s.toks) (λb o q e=>(sb.2 b q).trans e) L M N O Q;obtain⟨o,e,c,d⟩:=id r
  have e3:((l.length-1-i:Nat):Int)-1=(l.length:Int)-1-((i+1:Nat):Int):=by omega
  rw[e3] at r;exact⟨u,rfl,yex (s:={s with heap:=A}) e c d vA ⟨x,H,I1,ru,⟨rfl,by rw[Gb J];exact t⟩,⟨J,r⟩,λb q=>(B b q).1⟩⟩
 done:=by
  intro X C D F S i m s T H E I B f G;subst C D F;obtain⟨U,t⟩:=G
  obtain⟨L,M,f2,N,O,Q⟩:=B n vC
  have R:(l.length:Int)-1-(i:Int) = -1:=by have:=f.1;omega
  have g:=f.2;rw[R] at g;exact wpAny_pyNext_rev_end (I.ok.hd S) g λA eb=>⟨rfl,I.turned (t':=s.toks) (λb o q e=>eb b o q e) L M N O Q⟩
 self:=λ_ _ _ _ _ f h=>wpAny_pyIter_revIter f.2 h
def zme:bootBuiltins "reversed" = some (.type "reversed"):=by decide +kernel
section
variable{X:Cx}{tg a:Expr}{p pos:Pos}{ρ:Rho}
def iRev(K:vE)(f:TA):TI:=λg H R=>f g H λh d=>∃a e,h=[.ref a]/\SqL K d a e/\R (Itv K a e) d
def pi_rev{v:TA}(B:Gl X "reversed")(C:X.mg "reversed" = none)(D:PA X [a] v)(E:starEach [a] X.env=[(false,eval a X.env)]):PI X tg (.Call (.Name "reversed" p) [a] [] pos) (iRev X.K v):=by
 intro f s w H R I h;refine Call_ (zgk I B C zme (Y8 (thn (D pos f s w H _ I h) λP g ⟨Q,z,m,F,G⟩=>?_) (by rw[E];rfl) (by rfl)));obtain⟨l,A,e,J,q⟩:=G
 subst e;obtain⟨u,e,r⟩:=zkp F
 subst e;cases r;obtain⟨d,L,M,S⟩:=m.list J
 have n:d.toArray.size=A.length:=by simp[L.length]
 refine call_reversed_list M.isList ?_;have N:Inv X f w z {g with heap:=g.heap.push (revObj l ((d.toArray.size:Int)-1))}:=m.kept (t':=g.toks) λb o e=>Ze _ e
 have t:(g.heap.push (revObj l ((d.toArray.size:Int)-1))).IsRevIter g.heap.objs.size l ((d.toArray.size:Int)-1):=⟨_,Z0 _ rfl,rfl,rfl⟩;refine wpAny_pyIter_revIter t ⟨_,[g.heap.objs.size],_,_,z,rfl,N,ybq l _ A,⟨Yj _,?_⟩,λb O=>?_,q⟩
 ·rw[n] at t |-;simpa using t
 ·have e:b=g.heap.objs.size:=by simpa using O
  subst e;exact m.fpOk (Zl _) (m.hok.fresh (Zl _))
def zvm{K:vE}{F:Hp}{a:Addr}{f:List V}{l:List D}(g:SqL K F a f)(r:DenL K F l f):Walks K F (Itv K a f) l.reverse:=λi s h=>⟨λd n=>by
 obtain⟨y,m,o⟩:=r.rev.get n
 refine⟨⟨h.seq g,y,m⟩,λx p ⟨q,ex⟩=>?_⟩
 rw[m] at ex;cases ex;exact .inl ⟨q,o⟩,λe=>⟨h.seq g,by
 rw[Qq] at e;rw[r.length];exact e⟩⟩
def DIe.rev{l:List D}(f:Gl X "reversed")(g:X.mg "reversed" = none)(h:DA X [a] ρ [.lst l])(m:Br a=true):DIe X tg (.Call (.Name "reversed" p) [a] [] pos) ρ l.reverse:=λn o=>
 PI.mono (pi_rev f g (h n o) (by rw[Bw m];rfl)) λB H R ⟨F,s,k⟩=>⟨F,s,λC t u w R2 q=>by
  obtain⟨v,e,q⟩:=q.one
  obtain⟨a,z,A,d,r⟩:=q.lst
  subst A;exact⟨a,z,e,R2.sub.seq d,k _ t u w R2 (zvm d r)⟩⟩
end
open PySem L2 PyProof.Rows
structure BFacts(K:vE):Prop where
 ex:∃C,PySem.W.nsIn K mainGlobals "Bound" = some (some (.ref C))/\Cls K C/\∀f∈flds,NoAttr K C f
def zxp:Expr->Bool
 |.Name _ _=>true
 |.Subscript _ _ _=>true
 |_=>false
def zxo{o:Expr}{f:Str}{env:Env}(h:zxp o=true):attributeBase o f env (eval o env)=eval o env:=by
 cases o<;>first|rfl|(cases h;done)
def DE.fld{X:Cx}{o:Expr}{f:Str}{pos:Pos}{g:Rho}{a:Addr}{l:List D}{d:D}{j:Nat}(B:BFacts X.K)(s:DF X o g (.obj a l))(t:zxp o=true)(h:flds[j]? = some f)(u:l[j]? = some d):DE X (.Attribute o f pos) g (.val d):=λw A=>
 PE.mono (pe_fld (s w A) (zxo t)) λT H Q ⟨F,R,k⟩=>⟨F,R,λv E G I m J=>by
  obtain⟨e,C,L,n,U,c,q,M,r⟩:=J.obj
  obtain⟨V,p,N,O⟩:=B.ex
  rw[c] at p;cases p;obtain⟨y,P,S⟩:=r.get u
  have lk:n.lookup f=some y:=by
   have:=congrArg (λz=>z[j]?) M
   simp only[Zh,h,P,W4] at this;exact Zw this
  exact⟨a,C,L,n,y,e,m.sub _ _ q,N,O f (Yr h),lk,k y E G I m (RW.v S)⟩⟩
open PySem L2 PyProof.Rows
def SI:Bool->Heap->Addr->Addr->Nat->Array Value->Prop
 |true,h,i,l,k,d=>h.IsListIter i l k/\h.IsList l d
 |false,h,i,l,k,d=>h.IsTupleIter i l k/\h.IsTuple l d
def SQ:Bool->Heap->Addr->Array Value->Prop
 |true,h,l,d=>h.IsList l d
 |false,h,l,d=>h.IsTuple l d
theorem SI.at{h d:Heap}{i l:Addr}{k:Nat}{f:Array Value}:∀{b:Bool},SI b h i l k f->(∀o,h.get? i=some o->d.get? i=some o)->(∀o,h.get? l=some o->d.get? l=some o)->SI b d i l k f
 |true,⟨e,g⟩,a,b=>⟨e.at a,g.at b⟩
 |false,⟨e,⟨o,m,r⟩⟩,a,b=>⟨e.at a,o,b o m,r⟩
def itO(b:Bool)(l:Addr):Obj:={cls:=.type (if b=true then "list_iterator" else "tuple_iterator"),data:=.fields #[.ref l,.int 0 0]}
section
variable{prog:Program}{w:World}{A:Around}{E:Value->Shared->Prop}{s:Shared}
def ydv{f l:Addr}{i:Nat}{d:Array Value}{x:Value}{Q:Value->Shared->Prop}(e:s.heap.IsTupleIter f l i)(q:s.heap.IsTuple l d)(r:d[i]? = some x)
 (t:∀m,m.IsTupleIter f l (i+1)->Heap.SameBut f s.heap m->Q x {s with heap:=m}):wpAny (model prog w) A (Builtin.SmallTypes.nextOf (.ref f)) Q E s:=by
 obtain⟨o,h,u,g⟩:=id e
 obtain⟨v,n,_,z,p⟩:=q
 unfold Builtin.SmallTypes.nextOf;refine Zd (wpAny_callSpecial?_slot (name:=Str.ofString "__next__") e.typeIs Kh (Q3 Kh e.typeIs V6 ?_ (V0 _)));show wpAny _ _ (field (.ref f) 0 >>= _) _ _ s;refine Zd (Wg h g (x:=.ref l) rfl ?_);show wpAny _ _ (if (Value.ref l == Value.none)=true then _ else _) _ _ s;rw[if_neg (show ¬((Value.ref l == Value.none)=true) from Zz)];show wpAny _ _ (field (.ref f) 1 >>= _) _ _ s;refine Zd (Wg h g (x:=.int i 0) rfl ?_);show wpAny _ _ (seqItems? (.ref l) >>= _) _ _ s;refine Zd (Wo n p ?_);simp only[Z9,r];refine Zd (wpAny_setField h g vC (Zs ⟨x,rfl,Zs (t _ ?_ (Ku ..))⟩));exact⟨_,Ws _ h (Obj.isFreed_of_fields (Ba g _)),(Obj.cls_mapFields ..).trans u,by rw[Ba g];simp[rawInt]⟩
def zxz{g l:Addr}{i:Nat}{d:Array Value}{x:Value}{Q:Value->Shared->Prop}{b:Bool}(h:SI b s.heap g l i d)(m:l≠g)(n:d[i]? = some x)
 (p:∀f,SI b f g l (i+1) d->Heap.SameBut g s.heap f->Q x {s with heap:=f}):wpAny (model prog w) A (Builtin.SmallTypes.nextOf (.ref g)) Q E s:=by
 cases b with
 |true=>exact Uf h.1 h.2 n λf a k=>p f ⟨a,h.2.at λo e=>(k.2 l m).trans e⟩ k
 |false=>
  refine ydv h.1 h.2 n λf a k=>p f ⟨a,?_⟩ k
  obtain⟨o,q,r⟩:=h.2
  exact⟨o,(k.2 l m).trans q,r⟩
def zut{g l:Addr}{i:Nat}{d:Array Value}{Q:Value->Shared->Prop}(t:A.handled=none)(f:s.heap.IsTupleIter g l i)(u:s.heap.IsTuple l d)(v:d[i]? = none)
 (z:∀h e,Heap.ExtBut g s.heap h->(∃o,h.get? e=some o/\o.cls=.type "StopIteration")->E (.ref e) {s with heap:=h}):wpAny (model prog w) A (Builtin.SmallTypes.nextOf (.ref g)) Q E s:=by
 obtain⟨o,n,B,p⟩:=id f
 obtain⟨C,q,_,D,r⟩:=u
 unfold Builtin.SmallTypes.nextOf;refine Zd (wpAny_callSpecial?_slot (name:=Str.ofString "__next__") f.typeIs Kh (Q3 Kh f.typeIs V6 ?_ (V0 _)));show wpAny _ _ (field (.ref g) 0 >>= _) _ _ s;refine Zd (Wg n p (x:=.ref l) rfl ?_);show wpAny _ _ (if (Value.ref l == Value.none)=true then _ else _) _ _ s;rw[if_neg (show ¬((Value.ref l == Value.none)=true) from Zz)];show wpAny _ _ (field (.ref g) 1 >>= _) _ _ s;refine Zd (Wg n p (x:=.int i 0) rfl ?_);show wpAny _ _ (seqItems? (.ref l) >>= _) _ _ s;refine Zd (Wo q r ?_);simp only[Z9,v];refine Zd (Jx (Zd (wpAny_setField n p vC ?_)));show wpAny _ _ (newExc (.type "StopIteration") [] >>= _) _ _ _;refine Zd ?_;simp only[newExc,newTuple];refine Zd (Jy ?_ (by size_fits));refine Zd (m:=firstArgMember _ _) (wpAny_of_eq (a:=Value.none) (by first|rfl|(simp only[firstArgMember];rfl)) ?_);refine Jy ?_ (by size_fits);simp only[raiseNew];refine Zd (wpAny_handled ?_);first|rw[show A.in1.handled=none from t]|rw[t]
 refine Zd (Zs (wpAny_throw ?_));exact z _ _ (((Ku ..).extBut.push _).push _) ⟨_,Z0 _ rfl,rfl⟩
def nx_end{f l:Addr}{i:Nat}{d:Array Value}{Q:Value->Shared->Prop}{b:Bool}(m:A.handled=none)(h:SI b s.heap f l i d)(n:d[i]? = none)
 (p:∀g e,Heap.ExtBut f s.heap g->(∃o,g.get? e=some o/\o.cls=.type "StopIteration")->E (.ref e) {s with heap:=g}):wpAny (model prog w) A (Builtin.SmallTypes.nextOf (.ref f)) Q E s:=by
 cases b with
 |true=>exact Bd m h.1 h.2 n p
 |false=>exact zut m h.1 h.2 n p
def yhq{l:Addr}{e:Array Value}{Q:Value->Shared->Prop}{b:Bool}(h:SQ b s.heap l e)(d:Q (.ref s.heap.objs.size) {s with heap:=s.heap.push (itO b l)}):wpAny (model prog w) A (pyIter (.ref l)) Q E s:=by
 cases b with
 |true=>exact Vm h d
 |false=>exact wpAny_pyIter_tuple h d
def yio{z TI TO q r l1 l2:Addr}{W X:Bool}{P R:Nat}{S T:Array Value}{x y a b:Value}{Q:Option Value->Shared->Prop}(D:ZipApart z TI TO q r l1 l2)(G:IsZip s.heap z TI TO .none)(Y:IsPair s.heap TI (.ref q) (.ref r))(Z:IsPair s.heap TO a b)
 (h1:SI W s.heap q l1 P S)(h2:SI X s.heap r l2 R T)(hx:S[P]? = some x)(hy:T[R]? = some y)
 (hQ:∀B,IsZip B z TI TO (rawInt s.heap.objs.size)->IsPair B TO x y->SI W B q l1 (P+1) S->SI X B r l2 (R+1) T->IsPair B s.heap.objs.size x y ->
   (∀c o,c≠z->c≠TO->c≠q->c≠r->s.heap.get? c=some o->B.get? c=some o)->Q (some (.ref s.heap.objs.size)) {s with heap:=B}):
  wpAny (model prog w) A (pyNext (.ref z)) Q E s:=by
 have H:s.TypeIs (.ref z) "zip" := ⟨_,G,rfl⟩;unfold pyNext;refine Zd (Ve (wpAny_callSpecial?_slot (name:=Str.ofString "__next__") H Qo (Q3 Qo H J1 ?_ (Jw _))));show wpAny _ _ (field (.ref z) 2 >>= _) _ _ _;refine Zd (Wg G rfl (x:=.bool false) rfl ?_);show wpAny _ _ (field (.ref z) 3 >>= _) _ _ _;refine Zd (Wg G rfl (x:=.ref TI) rfl ?_);refine Zd (Wo Y rfl ?_);show wpAny _ _ (Builtin.SmallTypes.ownedTupleIsFree (.ref z) >>= _) _ _ _;refine Zd ?_;unfold Builtin.SmallTypes.ownedTupleIsFree;refine Zd (Wg G rfl (x:=.none) rfl (Zs ?_));simp only[if_true];refine Zd (Jx ?_);refine Zd (Wg G rfl (x:=.ref TO) rfl ?_);refine Zd (Q8 G vC λg1 C I=>?_);replace C:IsZip g1 z TI TO .ellipsis:=C
 refine Zd ?_;simp only[U7,List.zipIdx_nil,K7,Uh];refine Zd (Zd (Gx ?_));show wpAny _ _ (Builtin.SmallTypes.nextOf (.ref q) >>= _) _ _ _;have e1:∀c o,c≠z->s.heap.get? c=some o->g1.get? c=some o:=λc o h e=>I.extBut _ _ h e
 refine Zd (zxz (h1.at (λo e=>e1 _ o D.i1z e) λo e=>e1 _ o D.l1z e) D.l1i1 hx λg2 a0 F=>Zs ?_);have e2:∀c o,c≠z->c≠q->s.heap.get? c=some o->g2.get? c=some o:=λc o h t e=>F.extBut _ _ t (e1 c o h e)
 have u:IsPair g2 TO a b:=e2 _ _ D.TOz D.TOi1 Z;refine Zd (Wo u rfl ?_);refine Zd (wpAny_updateSeq_pair u λg3 n p=>?_);replace n:IsPair g3 TO x b:=n
 refine Zd (Jl (Zs ?_));refine Zd (Zd (Gx ?_));show wpAny _ _ (Builtin.SmallTypes.nextOf (.ref r) >>= _) _ _ _;have e3:∀c o,c≠z->c≠q->c≠TO->s.heap.get? c=some o->g3.get? c=some o:=λc o h t J e=>p.extBut _ _ J (e2 c o h t e)
 refine Zd (zxz (h2.at (λo e=>e3 _ o D.i2z D.i12.symm D.TOi2.symm e) λo e=>e3 _ o D.l2z D.l2i1 D.l2TO e) D.l2i2 hy λg4 a1 l=>Zs ?_);have v:IsPair g4 TO x b:=l.extBut _ _ D.TOi2 n;refine Zd (Wo v rfl ?_);refine Zd (wpAny_updateSeq_pair v λf g d=>?_);replace g:IsPair f TO x y:=g
 refine Zd (Jl (Zs (Zs ?_)));refine Zd (Wo g rfl ?_);refine Zd (Ge ?_);have K:f.objs.size=s.heap.objs.size:=by rw[d.1,l.1,p.1,F.1,I.1]
 have z5:IsZip f z TI TO .ellipsis:=d.extBut _ _ D.TOz.symm (l.extBut _ _ D.i2z.symm (p.extBut _ _ D.TOz.symm (F.extBut _ _ D.i1z.symm C)));have e5:∀c o,c≠z->c≠TO->c≠q->c≠r->s.heap.get? c=some o->f.get? c=some o:=λc o h t J c4 e=>d.extBut _ _ t (l.extBut _ _ c4 (e3 c o h J t e))
 have a2:SI W f q l1 (P+1) S:=a0.at (λo e=>d.extBut _ _ D.TOi1.symm (l.extBut _ _ D.i12 (p.extBut _ _ D.TOi1.symm e))) λo e=>d.extBut _ _ D.l1TO (l.extBut _ _ D.l1i2 (p.extBut _ _ D.l1TO e))
 have a3:SI X f r l2 (R+1) T:=a1.at (λo e=>d.extBut _ _ D.TOi2.symm e) λo e=>d.extBut _ _ D.l2TO e
 have L:z<f.objs.size:=Zo z5;show wpAny _ _ (Builtin.SmallTypes.ownedTupleHandOut (.ref z) (.ref f.objs.size) >>= _) _ _ _;refine Zd ?_;unfold Builtin.SmallTypes.ownedTupleHandOut;have z6:IsZip (f.push {cls:=.type "tuple",data:=.seq #[x,y]}) z TI TO .ellipsis:=Ze _ z5;refine Zd (Q8 z6 vC λg7 z7 M=>?_);replace z7:IsZip g7 z TI TO (rawInt f.objs.size):=z7
 refine Q8 z7 vC λU V N=>?_;replace V:IsZip U z TI TO (rawInt f.objs.size):=V
 have m:∀c o,c≠z->f.get? c=some o->U.get? c=some o:=λc o h e=>N.extBut _ _ h (M.extBut _ _ h (Ze _ e))
 have O:IsPair U f.objs.size x y:=N.extBut _ _ (Z8 L) (M.extBut _ _ (Z8 L) (Z0 _ rfl));rw[K] at V O;refine Zs ⟨_,rfl,Zs ?_⟩;show Q (some (.ref f.objs.size)) _;rw[K];exact hQ U V (m _ _ D.TOz g) (a2.at (λo e=>m _ o D.i1z e) λo e=>m _ o D.l1z e) (a3.at (λo e=>m _ o D.i2z e) λo e=>m _ o D.l2z e) O λc o h t J c4 e=>m c o h (e5 c o h t J c4 e)
def zi_end{z TI TO h F l1 l2:Addr}{L:Bool}{G:Nat}{H:Array Value}{a b:Value}{Q:Option Value->Shared->Prop}(I:A.handled=none)(D:ZipApart z TI TO h F l1 l2)(g:IsZip s.heap z TI TO .none)(u:IsPair s.heap TI (.ref h) (.ref F))(M:IsPair s.heap TO a b)
 (N:SI L s.heap h l1 G H)(O:H[G]? = none)
 (P:∀J,(∀c o,c≠z->c≠h->s.heap.get? c=some o->J.get? c=some o)->Q none {s with heap:=J}):wpAny (model prog w) A (pyNext (.ref z)) Q E s:=by
 have l:s.TypeIs (.ref z) "zip" := ⟨_,g,rfl⟩;unfold pyNext;refine Zd (Ve (wpAny_callSpecial?_slot (name:=Str.ofString "__next__") l Qo (Q3 Qo l J1 ?_ (Jw _))));show wpAny _ _ (field (.ref z) 2 >>= _) _ _ _;refine Zd (Wg g rfl (x:=.bool false) rfl ?_);show wpAny _ _ (field (.ref z) 3 >>= _) _ _ _;refine Zd (Wg g rfl (x:=.ref TI) rfl ?_);refine Zd (Wo u rfl ?_);show wpAny _ _ (Builtin.SmallTypes.ownedTupleIsFree (.ref z) >>= _) _ _ _;refine Zd ?_;unfold Builtin.SmallTypes.ownedTupleIsFree;refine Zd (Wg g rfl (x:=.none) rfl (Zs ?_));simp only[if_true];refine Zd (Jx ?_);refine Zd (Wg g rfl (x:=.ref TO) rfl ?_);refine Zd (Q8 g vC λK d v=>?_);replace d:IsZip K z TI TO .ellipsis:=d
 refine Zd ?_;simp only[U7,List.zipIdx_nil,K7,Uh];refine Zd (Zd (Gx ?_));show wpAny _ _ (Builtin.SmallTypes.nextOf (.ref h) >>= _) _ _ _;have B:∀c o,c≠z->s.heap.get? c=some o->K.get? c=some o:=λc o t e=>v.extBut _ _ t e
 refine Zd (nx_end (by first|exact I|simp[I]) (N.at (λo e=>B _ o D.i1z e) λo e=>B _ o D.l1z e) O λR e m S=>?_);obtain⟨U,f,n⟩:=S
 have p:IsZip R z TI TO .ellipsis:=m _ _ D.i1z.symm d;have C:e≠z:=λx=>by subst x;rw[p] at f;cases f;simp at n
 refine Q8 p vC λg3 _ r=>?_;refine Zd (wpAny_isInstance (T := "StopIteration") (b:=true) ⟨U,r.extBut _ _ C f,n⟩ isSubtype_stop ?_);exact Zs (P _ λc o t V q=>r.extBut _ _ t (m _ _ V (B c o t q)))
end
open PySem L2 PyProof.Rows
abbrev zh1(h:Heap)(d:Bool)(l1:Addr):Heap:=h.push (itO d l1)
abbrev zh2(h:Heap)(d e:Bool)(l1 l2:Addr):Heap:=(zh1 h d l1).push (itO e l2)
abbrev zh3(h:Heap)(d e:Bool)(l1 l2:Addr):Heap:=(zh2 h d e l1 l2).push {cls:=.type "tuple",data:=.seq #[.ref h.objs.size,.ref (zh1 h d l1).objs.size]}
abbrev zh4(h:Heap)(d e:Bool)(l1 l2:Addr):Heap:=(zh3 h d e l1 l2).push {cls:=.type "tuple",data:=.seq #[.none,.none]}
abbrev zh5(h:Heap)(d e:Bool)(l1 l2:Addr):Heap:=(zh4 h d e l1 l2).push {cls:=.type "zip",data:=.fields #[.none,.bool false,.bool false,.ref (zh2 h d e l1 l2).objs.size,.ref (zh3 h d e l1 l2).objs.size]}
theorem SQ.push{h:Heap}{l:Addr}{d:Array Value}{o:Obj}:∀{b:Bool},SQ b h l d->SQ b (h.push o) l d
 |true,q=>Heap.IsList.push q _
 |false,q=>Heap.IsTuple.push q _
def yef(l1 l2:Addr)(e f:Bool)(l m:Array Value):
  Meets (Builtin.«zip.__new__» ⟨[.type "zip", .ref l1,.ref l2],[]⟩) (λ_ R s=>SQ e s.heap l1 l/\SQ f s.heap l2 m/\R (.ok (.ret (.ref (zh4 s.heap e f l1 l2).objs.size))) {s with heap:=zh5 s.heap e f l1 l2}):=
 .of_wp λn w A R s h=>by
  obtain⟨o,g,d,p,os⟩:=s
  obtain⟨r,t,h⟩:=h
  have q:=sub_zip;have u:SQ e (Shared.heap ⟨o,g,d,p,os⟩) l1 l:=r;have v:SQ f (Shared.heap ⟨o.push (itO e l1),g,d,p,os⟩) l2 m:=SQ.push t;wp_walk using yhq u,yhq v
  exact⟨_,rfl,h⟩
section
variable{prog:Program}{w:World}{A:Around}{E:Value->Shared->Prop}{s:Shared}
theorem SI.new{h:Heap}{i l:Addr}{d:Array Value}:∀{b:Bool},h.get? i=some (itO b l)->SQ b h l d->SI b h i l 0 d
 |true,e,q=>⟨⟨_,e,rfl,rfl⟩,q⟩
 |false,e,q=>⟨⟨_,e,rfl,rfl⟩,q⟩
theorem SQ.at{h d:Heap}{l:Addr}{e:Array Value}:∀{b:Bool},SQ b h l e->(∀o,h.get? l=some o->d.get? l=some o)->SQ b d l e
 |true,q,k=>Heap.IsList.at q k
 |false,⟨o,f,r⟩,k=>⟨o,k o f,r⟩
def yoi{l1 l2:Addr}{d f:Bool}{l m:Array Value}{Q:Value->Shared->Prop}(u:SQ d s.heap l1 l)(v:SQ f s.heap l2 m)
 (h:∀g,IsZip g (s.heap.objs.size+4) (s.heap.objs.size+2) (s.heap.objs.size+3) .none->IsPair g (s.heap.objs.size+2) (.ref s.heap.objs.size) (.ref (s.heap.objs.size+1)) ->
   IsPair g (s.heap.objs.size+3) .none .none->SI d g s.heap.objs.size l1 0 l->SI f g (s.heap.objs.size+1) l2 0 m ->
   (∀c o,s.heap.get? c=some o->g.get? c=some o)->Q (.ref (s.heap.objs.size+4)) {s with heap:=g}):
  wpAny (model prog w) A (call (.type "zip") [.ref l1,.ref l2]) Q E s:=by
 refine callType_new F.called_zip vA (F.typeCall_zip_2 _ _) (F.newCall_zip_2 _ _) (λn=>F.args_object_init_3 n _ _) F.entry_zip_new (yef l1 l2 d f l m) ⟨u,v,?_⟩;have p:(zh1 s.heap d l1).objs.size=s.heap.objs.size+1:=Qy ..;have q:(zh2 s.heap d f l1 l2).objs.size=s.heap.objs.size+2:=by rw[Qy,p]
 have r:(zh3 s.heap d f l1 l2).objs.size=s.heap.objs.size+3:=by rw[Qy,q]
 have z:(zh4 s.heap d f l1 l2).objs.size=s.heap.objs.size+4:=by rw[Qy,r]
 have up:∀c o,s.heap.get? c=some o->(zh5 s.heap d f l1 l2).get? c=some o:=λc o e=>Ze _ (Ze _ (Ze _ (Ze _ (Ze _ e))))
 have t:(zh5 s.heap d f l1 l2).get? (zh4 s.heap d f l1 l2).objs.size=some _:=Z0 _ rfl;have B:(zh5 s.heap d f l1 l2).get? (zh3 s.heap d f l1 l2).objs.size=some _:=Ze _ (Z0 _ rfl);have g3:(zh5 s.heap d f l1 l2).get? (zh2 s.heap d f l1 l2).objs.size=some _:=Ze _ (Ze _ (Z0 _ rfl));have C:(zh5 s.heap d f l1 l2).get? (zh1 s.heap d l1).objs.size=some (itO f l2):=Ze _ (Ze _ (Ze _ (Z0 _ rfl)));have D:(zh5 s.heap d f l1 l2).get? s.heap.objs.size=some (itO d l1):=Ze _ (Ze _ (Ze _ (Ze _ (Z0 _ rfl))));show _/\_;rw[q,r,z] at t;rw[p,q] at g3;rw[r] at B;rw[p] at C;rw[z];exact⟨⟨_,t,rfl⟩,h _ t g3 B (SI.new D (u.at λo e=>up _ o e)) (SI.new C (v.at λo e=>up _ o e)) up⟩
end
def SqB(K:vE)(H:Hp):Bool->Addr->List V->Prop
 |true,a,d=>SqL K H a d
 |false,a,d=>SqT K H a d
theorem zob{X:Cx}{e:List (Addr×Obj)}{l:L2.St}{H:Hp}{s:Shared}(I:Inv X e l H s){a:Addr}{g:List V}:∀{b:Bool},SqB X.K H b a g->∃d:List Value,Vals g d/\SQ b s.heap a d.toArray
 |true,h=>by
  obtain⟨d,f,p,_⟩:=I.list h
  exact⟨d,f,p.isList⟩
 |false,h=>by
  obtain⟨d,f,p,_⟩:=I.tuple h
  exact⟨d,f,p⟩
def Izg(K:vE)(f g:Bool)(a b:Addr)(d e:List V):It:=
 ⟨λi H=>SqB K H f a d/\SqB K H g b e/\(∃x y,d[i]? = some x/\e[i]? = some y),λi H z h=>∃p x y,H p=none/\z=.ref p/\h=upd H p (.tup [x,y])/\d[i]? = some x/\e[i]? = some y,λi H=>SqB K H f a d/\d.length<=i⟩
def IT:Bool->Heap->Addr->Addr->Nat->Prop
 |true,h,i,l,k=>h.IsListIter i l k
 |false,h,i,l,k=>h.IsTupleIter i l k
theorem IT.si{h:Heap}{i l:Addr}{k:Nat}{d:Array Value}:∀{b:Bool},IT b h i l k->SQ b h l d->SI b h i l k d
 |true,a,q=>⟨a,q⟩
 |false,a,q=>⟨a,q⟩
theorem SI.it{h:Heap}{i l:Addr}{k:Nat}{d:Array Value}:∀{b:Bool},SI b h i l k d->IT b h i l k
 |true,h=>h.1
 |false,h=>h.1
theorem IT.at{h d:Heap}{i l:Addr}{k:Nat}:∀{b:Bool},IT b h i l k->(∀o,h.get? i=some o->d.get? i=some o)->IT b d i l k
 |true,a,e=>Heap.IsListIter.at a e
 |false,a,e=>Heap.IsTupleIter.at a e
theorem IT.obj{h:Heap}{i l:Addr}{k:Nat}:∀{b:Bool},IT b h i l k->∃o,h.get? i=some o/\∀v,o.data ≠ .cell v
 |true,⟨o,e,c,d⟩=>⟨o,e,λv z=>by rw[d] at z;cases z⟩
 |false,⟨o,e,c,d⟩=>⟨o,e,λv z=>by rw[d] at z;cases z⟩
def yit{P:Program}{w:World}{K:vE}{G:List Expr}{x1}{tp:Pos}(b1 b2:Bool)(l1 l2 z TI TO t u:Addr)(xs ys:List V)(D:ZipApart z TI TO t u l1 l2):
  Turn P w K (.Tuple G x1 tp) (Izg K b1 b2 l1 l2 xs ys) [z,TI,TO,t,u] z (λi h=>IsZip h z TI TO .none/\IsPair h TI (.ref t) (.ref u)/\(∃a b,IsPair h TO a b)/\IT b1 h t l1 i/\IT b2 h u l2 i) where
 mem:=by simp
 obj:=λi h f b m=>by
  obtain⟨p,A,⟨a,c,O⟩,Q,R⟩:=f
  simp only[Zg,Zu,or_false] at m;rcases m with e|e|e|e|e<;>subst e
  ·exact⟨_,p,λv z=>by cases z⟩
  ·exact⟨_,A,λv z=>by cases z⟩
  ·exact⟨_,O,λv z=>by cases z⟩
  ·exact Q.obj
  ·exact R.obj
 keep:=λi h S f k=>by
  obtain⟨p,A,⟨a,c,O⟩,Q,R⟩:=f
  exact⟨k z vC _ p,k TI vC _ A,⟨a,c,k TO vC _ O⟩,Q.at λo q=>k t vC o q,R.at λo q=>k u vC o q⟩
 item:=by
  intro X T U Y hc i r s σ H E I L f Z;subst T U Y;obtain⟨M,d,⟨a,c,g⟩,p,A⟩:=f
  obtain⟨B,a0,x,y,hx,hy⟩:=Z
  obtain⟨J,C,p1⟩:=zob I B
  obtain⟨af,a6,p2⟩:=zob I a0
  obtain⟨u1,a7,a8⟩:=C.get hx
  obtain⟨u2,a9,aa⟩:=a6.get hy
  refine yio D M d g (p.si p1) (A.si p2) (by simpa using a7) (by simpa using a9) λS a1 a2 a3 a4 a5 N=>⟨_,rfl,?_⟩
  refine wpAny_letOwnedTupleGo_zip a1 λl ab ae=>?_;have zl:z<s.heap.objs.size:=Zo M;have lt:∀b∈[z,TI,TO,t,u],b<s.heap.objs.size:=λb m=>by
   simp only[Zg,Zu,or_false] at m;rcases m with e|e|e|e|e<;>subst e
   ·exact zl
   ·exact Zo d
   ·exact Zo g
   ·obtain⟨o,q,_⟩:=p.obj;exact Zo q
   ·obtain⟨o,q,_⟩:=A.obj;exact Zo q
  have up:∀b o,b≠z->S.get? b=some o->l.get? b=some o:=λb o n q=>(ae.2 b n).trans q
  have ht:l.get? s.heap.objs.size=some {cls:=.type "tuple",data:=.seq #[u1,u2]}:=up _ _ (Z8 zl) a5;have hk:∀b F,b∉[z,TI,TO,t,u]->s.heap.get? b=some F->l.get? b=some F:=λb F n q=>by
   simp only[Zg,Zu,or_false,not_or] at n;exact up b F n.1 (N b F n.1 n.2.2.1 n.2.2.2.1 n.2.2.2.2 q)
  have I2:Inv X r σ (upd H s.heap.objs.size (.tup [x,y])) {s with heap:=l,toks:=s.toks}:=
   Inv.turnedN I L hk (Zl _) ⟨by show 2<=sizeLine;decide,[u1,u2],.cons a8 #v[aa],⟨_,ht,rfl,_,rfl⟩⟩
  refine⟨.ref s.heap.objs.size,_,I2,rfl,⟨_,x,y,I.hok.fresh (Zl _),rfl,rfl,hx,hy⟩,⟨ab,up _ _ D.TIz (N _ _ D.TIz D.TITO D.TIi1 D.TIi2 d),⟨_,_,up _ _ D.TOz a2⟩,a3.it.at λo q=>up _ o D.i1z q,a4.it.at λo q=>up _ o D.i2z q⟩,λb m=>?_⟩
  rw[Bt (Yi (lt b m))];exact(L b m).1
 done:=by
  intro X T U Y hc i r s σ H E I L f Z;subst T U Y;obtain⟨M,d,⟨a,c,g⟩,p,A⟩:=f
  obtain⟨B,hx⟩:=Z
  obtain⟨J,C,p1⟩:=zob I B
  have hl:=C.length;refine zi_end (I.ok.hd hc) D M d g (p.si p1) (by simp;omega) λS N=>⟨rfl,?_⟩
  exact Inv.turnedF (t':=s.toks) I L λb F n q=>by
   simp only[Zg,Zu,or_false,not_or] at n;exact N b F n.1 n.2.2.2.1 q
 self:=λ_ _ _ _ _ f h=>V1 f.1 h
theorem SqB.mono{K:vE}{F H:Hp}(s:Same F H){a:Addr}{d:List V}:∀{b:Bool},SqB K F b a d->SqB K H b a d
 |true,h=>s.seq h
 |false,h=>Same.tup s h
section
variable{X:Cx}{elts:List Expr}{x1:Nat}{tp:Pos}
def iZg(K:vE)(l:TA):TI:=λm H R=>l m H λn d=>∃e f a b g h,n=[.ref a,.ref b]/\SqB K d e a g/\SqB K d f b h/\R (Izg K e f a b g h) d
def pi_zg{a b:Expr}{A:TA}{p pos:Pos}(M:Gl X "zip")(N:X.mg "zip" = none)(O:PA X [a,b] A)(P:starEach [a,b] X.env=[(false,eval a X.env),(false,eval b X.env)])(g:starEach [b] X.env=[(false,eval b X.env)]):PI X (.Tuple elts x1 tp) (.Call (.Name "zip" p) [a,b] [] pos) (iZg X.K A):=by
 intro f s B H R I h;refine Call_ (zgk I M N yfv (Y8 (thn (O pos f s B H _ I h) λus d ⟨vs,C,n,Q,S⟩=>?_) (by rw[P,g]) (by rw[g];rfl)));obtain⟨T,U,l,m,V,W,e,Y,v,q⟩:=S
 subst e;obtain⟨u,u2,e,r,Z⟩:=yiq Q
 subst e;cases r;cases Z;obtain⟨a0,rv,D⟩:=zob n Y
 obtain⟨E,a1,F⟩:=zob n v
 have lt:∀{b:Bool}{c:Addr}{G:Array Value},SQ b d.heap c G->c<d.heap.objs.size:=λ{b c G} k=>by
  cases b with
  |true=>obtain⟨o,w,_⟩:=k;exact Zo w
  |false=>obtain⟨o,w,_⟩:=k;exact Zo w
 refine yoi D F λh1 J g2 g3 g4 g5 z=>?_;have I2:Inv X f B C {d with heap:=h1}:=n.kept (t':=d.toks) z;refine V1 J ⟨_,[d.heap.objs.size+4,d.heap.objs.size+2,d.heap.objs.size+3,d.heap.objs.size,d.heap.objs.size+1],_,_,C,rfl,I2,yit T U l m _ _ _ _ _ V W (ygt (lt D) (lt F)),⟨J,g2,⟨_,_,g3⟩,g4.it,g5.it⟩,λb L=>?_,q⟩;have t:d.heap.objs.size<=b:=by
  simp only[Zg,Zu,or_false] at L;rcases L with e|e|e|e|e<;>subst e
  ·exact Qw _ _
  ·exact Qw _ _
  ·exact Qw _ _
  ·exact Zl _
  ·exact Qw _ _
 exact n.fpOk t (n.hok.fresh t)
def zrd{K:vE}{F:Hp}{u v:Bool}{a b:Addr}{g h:List V}{l m:List D}(w:SqB K F u a g)(n:SqB K F v b h)(r:DenL K F l g)(E:DenL K F m h)(O:l.length=m.length):Walks K F (Izg K u v a b g h) (zipD l m):=λi P o=>⟨λd s=>by
 unfold zipD at s;rw[Zh] at s;obtain⟨q,t,e⟩:=Zb.mp s
 rw[Kg] at t;obtain⟨G,z,H⟩:=r.get t.1
 obtain⟨I,A,J⟩:=E.get t.2
 subst e;refine⟨⟨w.mono o,n.mono o,G,I,z,A⟩,λx L ⟨p,Q,R,M,ex,N,B,C⟩=>?_⟩
 rw[z] at B;rw[A] at C;cases B;cases C;exact .inr ⟨p,_,[q.1,q.2],M,N,ex,rfl,DenL.cons H (DenL.cons J DenL.nil)⟩,λf=>⟨w.mono o,by
 unfold zipD at f;rw[Zc,Jz] at f;have:=r.length
 omega⟩⟩
def sqD:D->Option (List D)
 |.lst l=>some l
 |.tup l=>some l
 |_=>none
def zkw{K:vE}{F:Hp}{d:D}{l:List D}{v:V}(h:sqD d=some l)(q:Den K F d v):∃b a f,v=.ref a/\SqB K F b a f/\DenL K F l f:=by
 cases d<;>first|(cases h;done)|skip
 ·cases h;obtain⟨a,f,e,g,r⟩:=q.tup
  exact⟨false,a,f,e,g,r⟩
 ·cases h;obtain⟨a,f,e,g,r⟩:=q.lst
  exact⟨true,a,f,e,g,r⟩
def DI.zg{a b:Expr}{p pos:Pos}{h n:D}{l m:List D}{g:RhoS}(s:Gl X "zip")(t:X.mg "zip" = none)(w:DA X [a,b] (view g) [h,n])(z:sqD h=some l)(A:sqD n=some m)(B:Br a=true)(d:Br b=true)(C:l.length=m.length):
  DI X (.Tuple elts x1 tp) (.Call (.Name "zip" p) [a,b] [] pos) g (zipD l m) (frz g):=λE G=>
 PI.mono (pi_zg s t (w E G) (by rw[Bw B,Bw d];rfl) (by rw[Bw d];rfl)) λσ H R ⟨F,S,k⟩=>by
  obtain⟨s0,I⟩:=S.borrow
  refine⟨_,I,λvs J K L R2 q=>?_⟩
  obtain⟨M,N⟩:=S.freeze L R2
  obtain⟨v,u,e,O,P⟩:=q.two
  obtain⟨Q,a,T,U,o,r⟩:=zkw z O
  obtain⟨V,b,W,Y,f,Z⟩:=zkw A P
  subst U;subst Y;exact⟨Q,V,a,b,T,W,e,o.mono R2.sub,f.mono R2.sub,k _ J K M N (zrd o f r Z C)⟩
def DIe.zg{a b:Expr}{p pos:Pos}{g h:D}{l m:List D}{n:Rho}(s:Gl X "zip")(t:X.mg "zip" = none)(w:DA X [a,b] n [g,h])(z:sqD g=some l)(A:sqD h=some m)(B:Br a=true)(d:Br b=true)(C:l.length=m.length):
  DIe X (.Tuple elts x1 tp) (.Call (.Name "zip" p) [a,b] [] pos) n (zipD l m):=λE G=>
 PI.mono (pi_zg s t (w E G) (by rw[Bw B,Bw d];rfl) (by rw[Bw d];rfl)) λW H R ⟨F,I,k⟩=>⟨F,I,λY J K L R2 q=>by
  obtain⟨v,u,e,M,N⟩:=q.two
  obtain⟨O,a,P,Q,o,r⟩:=zkw z M
  obtain⟨S,b,T,U,f,V⟩:=zkw A N
  subst Q;subst U;exact⟨O,S,a,b,P,T,e,o.mono R2.sub,f.mono R2.sub,k _ J K L R2 (zrd o f r V C)⟩⟩
end
open PySem L2 PyProof.Rows
section
variable{prog:Program}{w:World}{A:Around}{E:Value->Shared->Prop}{s:Shared}
def ztz{l:Addr}{f:List (List Int×Addr)}{Q:Value->Shared->Prop}(I:s.heap.IsList l (f.map λx=>Value.ref x.2).toArray)(v:∀x∈f,IsTK prog w s.heap x.1 x.2/\isPr x.1=true)(J:(f.map (·.1)).Nodup)(z:f.length<64)
 (h:∀B K D (t:List (List Int×Addr)) n,t.Perm f->t.Pairwise (λx y=>ltK x.1 y.1=true)->B.get? D=some (seqObj "list" (t.map λx=>Value.ref x.2).toArray n)->s.heap.objs.size<=D->(∀b o,s.heap.get? b=some o->B.get? b=some o)->Q (.ref D) {s with heap:=B,toks:=K}):
  wpAny (model prog w) A (call (.builtin "sorted") [.ref l]) Q E s:=by
 refine Calls.call_function_entry kind_sorted plain_sorted entry_sorted (args_sorted1 _) ?_;unfold Builtin.«sorted»;refine Zd (m:=checkCount "sorted" 1 1 _) (Zs ?_);refine Zd (collect_list I ?_);generalize H:(s.heap.push (seqObj "list" #[] 0)).update s.heap.objs.size (Obj.mapSeq (· ++ (f.map λx=>Value.ref x.2).toArray))=g;have d:∀b o,s.heap.get? b=some o->g.get? b=some o:=λb o e=>by
  rw[<-H];exact(Yq _ _ (Z8 (Zo e))).trans (Ze _ e)
 have C:g.objs.size=s.heap.objs.size+1:=by rw[<-H,Km,size_push']
 refine Zd (Gy ?_ (by rw[Zc,K3];omega));have u:(g.push (seqObj "list" (f.map λx=>Value.ref x.2).toArray 0)).get? g.objs.size=some (seqObj "list" (f.map λx=>Value.ref x.2).toArray 0):=Z0 _ rfl;show wpAny _ _ _ _ _ {s with heap:=g.push (seqObj "list" (f.map λx=>Value.ref x.2).toArray 0)};refine Zd (W7 (Q3 slot_list_sort ⟨_,u,rfl⟩ entry_list_sort ?body (args_list_sort _)))
 case body=>
  refine yjl (xs:=f) u (λx L=>?_) J z λM t N O P F R=>⟨_,rfl,Zs ⟨_,rfl,h M s.toks _ t N O P F (by rw[C];exact Ju _) λb o e=>?_⟩⟩
  ·obtain⟨⟨S,G,m,q,r⟩,p⟩:=v x L
   exact⟨⟨S,G,m,Ze _ (d _ _ q),r⟩,p⟩
  ·exact R b o (Yi (Zo (d _ _ e))) (Ze _ (d _ _ e))
end
def srtW:∅
 |[.lst l]=>(zyu l).bind λd=>if d.length<=63/\d.Nodup then some (.new ((ssK d).map dK)) else none
 |_=>none
section
variable{X:Cx}
def yol{l:List D}{A:List (List Int)}(hX:X.calm=true)(S:zyu l=some A)(M:A.length<=63)(C:A.Nodup):zgw X (.builtin "sorted") [.lst l] (.new ((ssK A).map dK)):=by
 refine⟨λE H Q=>∃(a:Addr) (g:List (List Int×Addr)),E=[.ref a]/\SqL X.K H a (g.map λz=>V.ref z.2)/\(∀z∈g,SqT X.K H z.2 (z.1.map V.int)/\isPr z.1=true)/\g.length<=63/\(g.map (·.1)).Nodup /\
   ∀(f:List (List Int×Addr)) p,(∀y∈f,y∈g)->f.map (·.1)=ssK (g.map (·.1))->H p=none->Q (.ref p) (upd H p (.lst (f.map λz=>V.ref z.2))),λpins s T H E us Q I r ⟨a,g,e,U,m,M,C,h⟩=>?_,λH0 Fc H F T ρ E Q R q k=>?_⟩
 ·subst e;obtain⟨u,e,W⟩:=zkp r
  subst e;cases W;obtain⟨Y,r,pl,_⟩:=I.list U
  have e:=zmp r;subst e;refine ztz pl.isList (λx B=>⟨Inv.tk I (m x B).1,(m x B).2⟩) C vB λG J D f n o Z hg hD kp=>?_;have d:f.map (·.1)=ssK (g.map (·.1)):=by
   refine ygz (Ql.mpr Z) (zph λx B=>?_) λx=>?_
   ·obtain⟨z,q,e⟩:=Zv.mp B
    rw[<-e];exact(m z q).2
   ·rw[ssK_mem];exact(o.map _).mem_iff
  refine⟨.ref D,_,I.laid (t':=J) kp hD (show ObjOk X.prog X.w _ G D (.lst (f.map λz=>V.ref z.2)) from⟨?_,f.map (λz=>Value.ref z.2),n,zvr f,hg⟩),rfl,h f D (λy hy=>o.mem_iff.mp hy) d (I.hok.fresh hD)⟩
  rw[Zc,o.length_eq,K3];omega
 ·obtain⟨v,e,q⟩:=q.one
  obtain⟨a,xs,e1,sq,r⟩:=q.lst
  obtain⟨g,h1,G,L⟩:=zsy r S
  subst e1;subst h1;subst G;refine⟨a,g,e,R.sub.seq sq,λz m=>⟨Same.tup R.sub (L z m).1,(L z m).2⟩,by simpa using M,C,λf p t d o=>?_⟩
  obtain⟨N,O,P⟩:=R.put (.lst (f.map λz=>V.ref z.2)) o
  refine k _ _ _ (Same.refl _) N (RW.n O P Bv ?_);rw[<-d,Ye];clear d o N O P k;induction f with
  |nil=>exact DenL.nil
  |cons y f ih=>
   exact DenL.cons (Den.tup_mk (L y (t y (.head _))).1 (DenL.ints _)) (ih λz m=>t z (.tail _ m))
end
open PySem L2 PyProof.Rows
inductive Op where
 |add|sub|mul|fdiv|mod|pow
inductive Cm where
 |lt|le|gt|ge|eq|ne|isN|notN|isin|notin
inductive Ty where
 |int|bool|tuple|list
inductive Bi where
 |len|abs|min|max|sum|srt
inductive Fm where
 |ss|rev|lset|tupl|zip
inductive Tg where
 |name (i:Nat)|tup (l:List Nat)
mutual
inductive E where
 |var (i:Nat)|int (i:Int)|bl (b:Bool)|non
 |bin (o:Op) (a b:E)|neg (a:E)|cmp (c:Cm) (a b:E)
 |and (a b:E)|or (a b:E)|not (a:E)|ife (c a b:E)
 |tup (l:Es)|lst (l:Es)|ix (a b:E)|sl (a:E) (lo hi:EO)
 |call (f:Nat) (l:Es)|bi (f:Bi) (l:Es)|isi (a:E) (t:Ty)|isx (a:E) (ys:List Str)
 |idx (a b:E)|fld (a:E) (j:Nat)|fm (f:Fm) (l:Es)|lcp (a:E)|comp (elt:E) (t:Tg) (it:It') (nt:Nat) (fr:List Nat) (c:EO)
inductive Es where
 |nil|cons (e:E) (l:Es)
inductive EO where
 |non|som (e:E)
inductive It' where
 |seq (e:E)|seqV (i:Nat)|range1 (a:E)|range2 (a b:E)|enum (e:E)|rev (e:E)|zip (a b:E)
end
mutual
inductive S where
 |asg (i:Nat) (e:E)|unp (l:List Nat) (e:E)|par (i j:Nat) (a b:E)
 |ret (e:E)|retV (i:Nat)|iff (c:E) (a b:Ss)|whl (c:E) (b:Ss)|frr (t:Tg) (it:It') (b:Ss)|tryC (f g:Nat) (l:Es) (i j:Nat)|app (i:Nat) (e:E)|pop (i:Nat)|clr (i:Nat)|seti (i:Nat) (k e:E)|never
inductive Ss where
 |nil|cons (s:S) (l:Ss)
end
def Bz(a b:Int):Bool:=decide (a.natAbs<2^16000) && decide (b.natAbs<2^16000)
def zbu(b:Int):Bool:=decide (b≠0) && decide (b.natAbs<2^9000)
def zfq(a b:Int):Bool:=decide (0<=b) && decide (b<=1000) && decide (a.natAbs<2^64)
def addW:D->D->Option W
 |.int a,.int b=>some (.val (.int (a+b)))
 |.lst a,.lst b=>if a.length+b.length<=sizeLine then some (.new (a++b)) else none
 |_,_=>none
def arW(f:Int->Int->Option W):D->D->Option W
 |.int a,.int b=>f a b
 |_,_=>none
def opW:Op->D->D->Option W
 |.add,x,y=>addW x y
 |.sub,x,y=>arW (λa b=>some (.val (.int (a-b)))) x y
 |.mul,x,y=>arW (λa b=>if Bz a b=true then some (.val (.int (a*b))) else none) x y
 |.fdiv,x,y=>arW (λa b=>if zbu b=true then some (.val (.int (a.fdiv b))) else none) x y
 |.mod,x,y=>arW (λa b=>if b=0 then none else some (.val (.int (a.fmod b)))) x y
 |.pow,x,y=>arW (λa b=>if zfq a b=true then some (.val (.int (a^b.toNat))) else none) x y
def ordO(f:Int->Int->Bool):D->D->Option Bool
 |.int a,.int b=>some (f a b)
 |_,_=>none
def eqO:D->D->Option Bool
 |.int a,.int b=>some (decide (a=b))
 |.bl a,.bl b=>some (a == b)
 |.tup a,.tup b=>if (dOkL 49 a && dOkL 49 b)=true then some (eqL a b) else none
 |.lst a,.lst b=>if (dOkL 49 a && dOkL 49 b)=true then some (eqL a b) else none
 |_,_=>none
def inO(x:D):D->Option Bool
 |.lst l=>if (dOk 50 x && dOkL 49 l)=true then some (l.any λy=>eqD y x) else none
 |_=>none
def nonO(x:D):D->Option Bool
 |.non=>some (zoa x)
 |_=>none
def cmpD:Cm->D->D->Option Bool
 |.lt,x,y=>ordO (λa b=>decide (a<b)) x y
 |.le,x,y=>ordO (λa b=>decide (a<=b)) x y
 |.gt,x,y=>ordO (λa b=>decide (b<a)) x y
 |.ge,x,y=>ordO (λa b=>decide (b<=a)) x y
 |.eq,x,y=>eqO x y
 |.ne,x,y=>(eqO x y).map not
 |.isin,x,y=>inO x y
 |.notin,x,y=>(inO x y).map not
 |.isN,x,y=>nonO x y
 |.notN,x,y=>(nonO x y).map not
def isTy:Ty->D->Bool
 |.int,.int _=>true
 |.int,.bl _=>true
 |.bool,.bl _=>true
 |.tuple,.tup _=>true
 |.list,.lst _=>true
 |_,_=>false
def isTyO(t:Ty):D->Option Bool
 |.exc _=>none
 |.obj _ _=>none
 |d=>some (isTy t d)
def lenW:∅
 |[.lst l]=>some (.val (.int l.length))
 |[.tup l]=>some (.val (.int l.length))
 |_=>none
def absW:∅
 |[.int i]=>some (.val (.int (if i<0 then -i else i)))
 |_=>none
def minW:∅
 |[.int i,.int j]=>some (.val (.int (if j<i then j else i)))
 |[.lst l]=>(minN l).map W.val
 |_=>none
def maxW:∅
 |[.int i,.int j]=>some (.val (.int (if i<j then j else i)))
 |[.lst l]=>((zqd l).bind maxI).map λm=>.val (.int m)
 |_=>none
def biW:Bi->∅
 |.len,d=>lenW d
 |.abs,d=>absW d
 |.min,d=>minW d
 |.max,d=>maxW d
 |.sum,_=>none
 |.srt,d=>srtW d
def ixD:D->D->Option D
 |.tup l,.int i=>atI l i
 |.lst l,.int i=>atI l i
 |_,_=>none
def slD:D->Option Int->Option Int->Option W
 |.lst l,i,j=>some (.new (cutD l i j))
 |_,_,_=>none
def zbg:D->Option Bool
 |.bl b=>some b
 |_=>none
def dInt:D->Option Int
 |.int i=>some i
 |_=>none
def fldD(j:Nat):D->Option D
 |.obj _ l=>l[j]?
 |_=>none
def lcpW:D->Option W
 |.lst l=>some (.new l)
 |.tup l=>some (.new l)
 |_=>none
def fmW:Fm->∅
 |.tupl,[.lst l]=>some (.val (.tup l))
 |.zip,[.lst a,.lst b]=>if a.length=b.length then some (.new (zipD a b)) else none
 |_,_=>none
def tgOk(n:Nat):Tg->Bool
 |.name i=>decide (i<n)
 |.tup l=>l.all λi=>decide (i<n)
def setE(e:Rho)(i:Nat)(d:D):Option Rho:=if i<e.length then some (e.set i (some d)) else none
def zch:List Nat->List D->Rho->Option Rho
 |[],[],e=>some e
 |i::f,d::g,e=>(setE e i d).bind (zch f g)
 |_,_,_=>none
def zbv:Tg->D->Rho->Option Rho
 |.name i,d,e=>setE e i d
 |.tup f,.tup g,e=>zch f g e
 |_,_,_=>none
def zdb(l:List D):List D:=l.zipIdx.map λp=>D.tup [.int (p.2:Int),p.1]
def seqD:D->Option (List D)
 |.lst l=>some l
 |.tup l=>some l
 |_=>none
def lstD:D->Option (List D)
 |.lst l=>some l
 |_=>none
def varD(e:Rho)(i:Nat):Option D:=match e[i]? with
 |some (some d)=>some d
 |_=>none
section
variable(Γ:Nat->∅)
mutual
def ev:E->Rho->Option W
 |.var i,e=>(varD e i).map W.val
 |.int i,_=>some (.val (.int i))
 |.bl b,_=>some (.val (.bl b))
 |.non,_=>some (.val .non)
 |.bin o a b,e=>((ev a e).map W.d).bind λx=>((ev b e).map W.d).bind λy=>opW o x y
 |.neg a,e=>(((ev a e).map W.d).bind dInt).map λi=>.val (.int (-i))
 |.cmp c a b,e=>((ev a e).map W.d).bind λx=>((ev b e).map W.d).bind λy=>(cmpD c x y).map λk=>.val (.bl k)
 |.and a b,e=>(((ev a e).map W.d).bind zbg).bind λk=>if k=true then ev b e else some (.val (.bl false))
 |.or a b,e=>(((ev a e).map W.d).bind zbg).bind λk=>if k=true then some (.val (.bl true)) else ev b e
 |.not a,e=>(((ev a e).map W.d).bind zbg).map λk=>.val (.bl (!k))
 |.ife c a b,e=>(((ev c e).map W.d).bind zbg).bind λk=>if k=true then ev a e else ev b e
 |.tup l,e=>(evs l e).bind λg=>if g.length<=sizeLine then some (.val (.tup g)) else none
 |.lst l,e=>(evs l e).bind λg=>if g.length<=sizeLine then some (.new g) else none
 |.ix a b,e=>((ev a e).map W.d).bind λx=>((ev b e).map W.d).bind λy=>(ixD x y).map W.val
 |.sl a lo q,e=>((ev a e).map W.d).bind λx=>(evo lo e).bind λi=>(evo q e).bind λj=>slD x i j
 |.call f l,e=>(evs l e).bind λg=>Γ f g
 |.bi f l,e=>(evs l e).bind λg=>biW f g
 |.isi a t,e=>((ev a e).map W.d).bind λd=>(isTyO t d).map λk=>.val (.bl k)
 |.isx a r,e=>((ev a e).map W.d).bind λd=>(isX r d).map λk=>.val (.bl k)
 |.idx a b,e=>((ev a e).map W.d).bind λx=>((ev b e).map W.d).bind λy=>idxW x y
 |.fld a j,e=>(((ev a e).map W.d).bind (fldD j)).map W.val
 |.fm f l,e=>(evs l e).bind λg=>fmW f g
 |.lcp a,e=>((ev a e).map W.d).bind lcpW
 |.comp n t s p fr c,e=>(evW s e).bind λh=>if h.length<=sizeLine/\tgOk p t=true then
   (zcp (λd=>(zbv t d (blkR p fr e)).bind λm=>(evc c m).bind λk=>if k=true then((ev n m).map W.d).map some else some none) h).map W.new else none
def evs:Es->Rho->Option (List D)
 |.nil,_=>some []
 |.cons e l,f=>((ev e f).map W.d).bind λd=>(evs l f).map λg=>d::g
def evo:EO->Rho->Option (Option Int)
 |.non,_=>some none
 |.som e,f=>(((ev e f).map W.d).bind dInt).map some
def evc:EO->Rho->Option Bool
 |.non,_=>some true
 |.som e,f=>((ev e f).map W.d).bind zbg
def evW:It'->Rho->Option (List D)
 |.seq e,f=>((ev e f).map W.d).bind seqD
 |.seqV i,f=>(varD f i).bind seqD
 |.range1 a,f=>(((ev a f).map W.d).bind dInt).bind λn=>if -(2^62)<=n/\n<2^62 then some (zao 0 n.toNat) else none
 |.range2 a b,f=>(((ev a f).map W.d).bind dInt).bind λm=>(((ev b f).map W.d).bind dInt).bind λn=>
   if -(2^62)<=m/\m<2^62 /\ -(2^62)<=n/\n<2^62 then some (zao m (n-m).toNat) else none
 |.enum e,f=>(((ev e f).map W.d).bind lstD).map zdb
 |.rev e,f=>(((ev e f).map W.d).bind lstD).map List.reverse
 |.zip a b,f=>(((ev a f).map W.d).bind sqD).bind λl=>(((ev b f).map W.d).bind sqD).bind λm=>if l.length=m.length then some (zipD l m) else none
end
def evB(e:E)(f:RhoS):Option Bool:=((ev Γ e (view f)).map W.d).bind zbg
def setR(d:RhoS)(i:Nat)(b:B):Option RhoS:=if i<d.length then some (d.set i (some b)) else none
def zfz:List Nat->List D->RhoS->Option RhoS
 |[],[],e=>some e
 |i::f,d::g,e=>(setR e i (.sh d)).bind (zfz f g)
 |_,_,_=>none
def zas:Tg->D->RhoS->Option RhoS
 |.name i,d,e=>setR e i (.sh d)
 |.tup f,.tup g,e=>zfz f g e
 |_,_,_=>none
def seqB(d:RhoS):Option (Option B)->Option (List D×RhoS)
 |some (~~~.lst l)=>some (l,d)
 |some (~~~.tup l)=>some (l,d)
 |some (some (.ow l))=>some (l,frz d)
 |_=>none
def evI:It'->RhoS->Option (List D×RhoS)
 |.seqV i,f=>seqB f f[i]?
 |.seq e,f=>(ev Γ e (view f)).bind λw=>match w.d with
  |.lst l=>some (l,after w f)
  |.tup l=>some (l,after w f)
  |_=>none
 |.range1 a,f=>(((ev Γ a (view f)).map W.d).bind dInt).bind λn=>if -(2^62)<=n/\n<2^62 then some (zao 0 n.toNat,f) else none
 |.range2 a b,f=>(((ev Γ a (view f)).map W.d).bind dInt).bind λm=>(((ev Γ b (view f)).map W.d).bind dInt).bind λn=>
   if -(2^62)<=m/\m<2^62 /\ -(2^62)<=n/\n<2^62 then some (zao m (n-m).toNat,f) else none
 |.enum e,f=>(ev Γ e (view f)).bind λw=>match w.d with
  |.lst l=>some (zdb l,frz f)
  |_=>none
 |.rev _,_=>none
 |.zip a b,f=>(((ev Γ a (view f)).map W.d).bind sqD).bind λl=>(((ev Γ b (view f)).map W.d).bind sqD).bind λm=>if l.length=m.length then some (zipD l m,frz f) else none
open Classical in
def zhp(c:RhoS->Option Bool)(b:RhoS->Option Out)(d:RhoS):Option Out:=
 if h:∃n o,zar c b n d=some o then zar c b h.choose d else none
theorem zeg{c:RhoS->Option Bool}{b:RhoS->Option Out}:∀{n m:Nat}{d:RhoS}{o:Out},zar c b n d=some o->n<=m->zar c b m d=some o
 |0,_,_,_,h,_=>by cases h
 |n+1,0,_,_,_,h=>by omega
 |n+1,m+1,d,o,h,l=>by
  unfold zar at h |-;cases e:c d with
  |none=>rw[e] at h;cases h
  |some k=>
   simp only[e] at h |-;cases k with
   |false=>exact h
   |true=>
    cases f:b d with
    |none=>simp only[f] at h;cases h
    |some o2=>
     simp only[f] at h |-;cases o2 with
     |rt w=>exact h
     |nx g=>exact zeg h vB
def zeq{c:RhoS->Option Bool}{b:RhoS->Option Out}{n:Nat}{e:RhoS}{o:Out}(h:zar c b n e=some o):zhp c b e=some o:=by
 have d:∃n o,zar c b n e=some o:=⟨n,o,h⟩;unfold zhp;rw[dif_pos d];obtain⟨g,f⟩:=d.choose_spec
 rw[f];have a:=zeg h (Nat.le_max_left n d.choose);have b:=zeg f (Nat.le_max_right n d.choose);rw[a] at b;exact b.symm
def zjz{c:RhoS->Option Bool}{b:RhoS->Option Out}{d:RhoS}{o:Out}(h:zhp c b d=some o):∃n,zar c b n d=some o:=by
 unfold zhp at h;by_cases e:∃n o,zar c b n d=some o
 ·rw[dif_pos e] at h;exact⟨_,h⟩
 ·rw[dif_neg e] at h;cases h
mutual
def ex:S->RhoS->Option Out
 |.asg i e,h=>(ev Γ e (view h)).bind λw=>(setR (after w h) i w.b).map Out.nx
 |.unp o e,h=>(ev Γ e (view h)).bind λw=>(zas (.tup o) w.d (after w h)).map Out.nx
 |.par i j a b,h=>((ev Γ a (view h)).map W.d).bind λx=>((ev Γ b (view h)).map W.d).bind λy=>
   if lf x=true/\lf y=true/\i≠j/\i<h.length/\j<h.length then some (.nx ((h.set i (~~~x)).set j (~~~y))) else none
 |.ret e,h=>(ev Γ e (view h)).map Out.rt
 |.retV i,h=>match h[i]? with
  |some (some (.ow l))=>some (.rt (.new l))
  |some (~~~d)=>some (.rt (.val d))
  |_=>none
 |.iff c a b,h=>(evB Γ c h).bind λk=>if k=true then exs a h else exs b h
 |.whl c b,h=>zhp (evB Γ c) (exs b) h
 |.frr t q b,h=>(evI Γ q h).bind λp=>forN (zas t) (exs b) p.1 p.2
 |.tryC f g l i j,h=>(evs Γ l (view h)).bind λm=>match Γ g m with
  |some (.val (.exc z))=>if z∈zvk/\i≠j/\i<h.length then some (.nx (((frz h).set j none).set i (~~~.exc z))) else none
  |_=>(Γ f m).map λ_=>.nx (frz h)
 |.app i e,h=>(ev Γ e (view h)).bind λw=>match h[i]?,w with
  |some (some (.ow l)),.val d=>if lf d=true/\l.length<sizeLine then some (.nx (h.set i (some (.ow (l++[d]))))) else none
  |_,_=>none
 |.pop i,h=>match h[i]? with
  |some (some (.ow l))=>if l=[] then none else some (.nx (h.set i (some (.ow l.dropLast))))
  |_=>none
 |.clr i,h=>match h[i]? with
  |some (some (.ow _))=>some (.nx (h.set i (some (.ow []))))
  |_=>none
 |.seti i k e,h=>(ev Γ e (view h)).bind λw=>(((ev Γ k (view h)).map W.d).bind dInt).bind λj=>match h[i]?,w with
  |some (some (.ow l)),.val d=>if lf d=true then(ixN l.length j).map λn=>.nx (h.set i (some (.ow (l.set n d)))) else none
  |_,_=>none
 |.never,_=>none
def exs:Ss->RhoS->Option Out
 |.nil,d=>some (.nx d)
 |.cons s l,d=>(ex s d).bind λo=>match o with
  |.nx e=>exs l e
  |.rt w=>some (.rt w)
end
def run(b:Ss)(n:Nat)(e:List D):Option W:=(exs Γ b (e.map (λd=>~~~d)++List.replicate (n-e.length) none)).bind λo=>match o with
 |.rt w=>some w
 |.nx _=>some (.val .non)
end
open PySem L2 PyProof.Rows
section
variable{X:Cx}{e a b c:Expr}{es:List Expr}{ρ:RhoS}{pos:Pos}
def zjy{d:Type}(l:List d)(i:Nat):l.zipIdx[i]? = (l[i]?).map λx=>(x,i):=by simp
def DI.enum{h:List Expr}{u:Nat}{tp p:Pos}{l:List D}(w:Gl X "enumerate")(A:X.mg "enumerate" = none)(B:DA X [a] (view ρ) [.lst l])(C:Br a=true):
  DI X (.Tuple h u tp) (.Call (.Name "enumerate" p) [a] [] pos) ρ (zdb l) (frz ρ):=λE G=>
 PI.mono (zxs w A (B E G) (Bw C)) λY H R ⟨F,S,k⟩=>by
  obtain⟨Z,I⟩:=S.borrow
  refine⟨_,I,λvs J K L R2 q=>?_⟩
  obtain⟨M,N⟩:=S.freeze L R2
  obtain⟨v,e,q⟩:=q.one
  obtain⟨a,m,O,n,r⟩:=q.lst
  subst O;refine⟨a,e,⟨m,R2.sub.seq n⟩,k _ J K M N λi H' o=>⟨λd g=>?_,λf=>⟨m,o.seq n,?_⟩⟩⟩
  ·unfold zdb at g;rw[Zh,zjy] at g;cases s:l[i]? with
   |none=>rw[s] at g;cases g
   |some P=>
    rw[s] at g;cases g;obtain⟨y,t,Q⟩:=r.get s
    refine⟨⟨m,y,o.seq n,t⟩,λx T ⟨p,z,U,ex,V,W⟩=>?_⟩
    have:=W m (o.seq n)
    rw[t] at this;cases this;exact .inr ⟨p,_,[.int (i:Int),P],U,V,ex,rfl,DenL.cons Den.int_mk (DenL.cons Q DenL.nil)⟩
  ·unfold zdb at f;rw[Zc,Qb] at f;rw[r.length];exact f
end
open PySem L2 PyProof.Rows
section
variable{X:Cx}{e a b c t tg:Expr}{es ts:List Expr}{ρ ρ' ρ2:Rho}{pos:Pos}{d:D}{ds:List D}{w:W}
def ztm{K:vE}{F:Hp}{a:Addr}{e:List V}{l:List D}(f:SqL K F a e)(r:DenL K F l e):Walks K F (Itl K a) l:=λi t g=>⟨λd n=>by
 obtain⟨y,m,o⟩:=r.get n
 refine⟨⟨e,y,g.seq f,m⟩,λx p ⟨q,s⟩=>?_⟩
 have:=s e (g.seq f)
 rw[m] at this;cases this;exact .inl ⟨q,o⟩,λh=>⟨e,g.seq f,by rw[r.length];exact h⟩⟩
def zvl{K:vE}{F:Hp}{a:Addr}{e:List V}{l:List D}(f:SqT K F a e)(r:DenL K F l e):Walks K F (Itt K a) l:=λi t g=>⟨λd n=>by
 obtain⟨y,m,o⟩:=r.get n
 refine⟨⟨e,y,Same.tup g f,m⟩,λx p ⟨q,s⟩=>?_⟩
 have:=s e (Same.tup g f)
 rw[m] at this;cases this;exact .inl ⟨q,o⟩,λh=>⟨e,Same.tup g f,by rw[r.length];exact h⟩⟩
def ztn{K:vE}{F:Hp}{a:Addr}{g:List V}{l:List D}(h:SqL K F a g)(r:DenL K F l g):Walks K F (Ite K a) (zdb l):=λi A m=>⟨λd f=>by
 unfold zdb at f;rw[Zh,zjy] at f;cases n:l[i]? with
 |none=>rw[n] at f;cases f
 |some q=>
  rw[n] at f;cases f;obtain⟨y,o,s⟩:=r.get n
  refine⟨⟨g,y,m.seq h,o⟩,λx t ⟨p,z,u,ex,v,w⟩=>?_⟩
  have:=w g (m.seq h)
  rw[o] at this;cases this;exact .inr ⟨p,_,[.int (i:Int),q],u,v,ex,rfl,DenL.cons Den.int_mk (DenL.cons s DenL.nil)⟩,λe=>⟨g,m.seq h,by
 unfold zdb at e;rw[Zc,Qb] at e;rw[r.length];exact e⟩⟩
def DIe.list{l:List D}(f:DF X e ρ (.lst l)):DIe X tg e ρ l:=λg h=>PI.mono (zpr (f g h)) λu H R ⟨F,m,k⟩=>⟨F,m,λv n o p R2 q=>by
 obtain⟨a,s,t,d,r⟩:=q.lst
 exact⟨a,t,⟨s,R2.sub.seq d⟩,k _ n o p R2 (ztm d r)⟩⟩
theorem DIe.tup{l:List D}(f:DF X e ρ (.tup l)):DIe X tg e ρ l:=λg h=>PI.mono (zxr (f g h)) λu H R ⟨F,m,k⟩=>⟨F,m,λv n o p R2 q=>by
 obtain⟨a,s,t,d,r⟩:=q.tup
 exact⟨a,t,⟨s,Same.tup R2.sub d⟩,k _ n o p R2 (zvl d r)⟩⟩
def DIe.range1{p:Pos}{n:Int}(d:Gl X "range")(f:X.mg "range" = none)(g:DA X [a] ρ [.int n])(h:Br a=true)(l : -(2^62)<=n)(m:n<2^62):DIe X tg (.Call (.Name "range" p) [a] [] pos) ρ (zao 0 n.toNat):=λo r=>
 PI.mono (zik d f (g o r) (Bw h)) λz H R ⟨F,s,k⟩=>⟨F,s,λA t u w R2 q=>by
  obtain⟨v,e,q⟩:=q.one
  rw[q.int] at e;exact⟨n,e,l,m,k _ t u w R2 zge⟩⟩
def DIe.enum{d:List Expr}{g:Nat}{tp p:Pos}{l:List D}(h:Gl X "enumerate")(m:X.mg "enumerate" = none)(n:DA X [a] ρ [.lst l])(o:Br a=true):DIe X (.Tuple d g tp) (.Call (.Name "enumerate" p) [a] [] pos) ρ (zdb l):=λs t=>
 PI.mono (zxs h m (n s t) (Bw o)) λE H R ⟨F,u,k⟩=>⟨F,u,λG w z A R2 q=>by
  obtain⟨v,e,q⟩:=q.one
  obtain⟨a,B,C,f,r⟩:=q.lst
  subst C;exact⟨a,e,⟨B,R2.sub.seq f⟩,k _ w z A R2 (ztn f r)⟩⟩
theorem ER.set{K:vE}{H0 Fc F H:Hp}{σ:L2.St}(R:ER K H0 Fc F H σ ρ){i:Nat}{v:V}(q:Den K F d v)(g:i<ρ.length)(h:i<σ.length):ER K H0 Fc F H (σ.set i (some v)) (ρ.set i (some d)):=
 ⟨R.sub,R.same,R.base,R.new,λj l e=>by
  by_cases f:j=i
  ·subst f;rw[Yy g] at e;cases e;exact⟨v,Yy h,q⟩
  ·rw[Yl (Wz f)] at e |-;exact R.env j l e⟩
def DGe.name{i:Nat}{x:Str}(g:X.N.Nodup)(e:X.N[i]? = some x)(f:X.env.scope.names.lookup x=some .local)(h:i<ρ.length):DGe X (.Name x pos) d ρ (ρ.set i (some d)):=λl m=>
 PG.mono (zil g e (.inl f) (.inr f)) λv n H Q ⟨hlen,F,R,q,k⟩=>k _ (by rw[W6];exact hlen) (R.set q h (by rw[hlen];exact(Zm.mp e).1))
def DGse(X:Cx)(tg:List Expr)(ds:List D)(ρ ρ':Rho):Prop:=∀e f,PGs X tg (λh g H Q=>g.length=X.N.length/\∃F,ER X.K e f F H g ρ/\DenL X.K F ds h/\∀d,d.length=X.N.length->ER X.K e f F H d ρ'->Q d H)
def DGse.nil:DGse X [] [] ρ ρ:=λf g=>PGs.mono zps λh d H Q ⟨e,F,S,q,k⟩=>⟨q.inv_nil,k d e S⟩
def DGse.cons(l:DGe X t d ρ ρ')(m:DGse X ts ds ρ' ρ2)(n:Br t=true):DGse X (t::ts) (d::ds) ρ ρ2:=λg h=>
 PGs.mono (zhe (l g h) (m g h) (by rw[zbl n];rfl)) λz A H Q ⟨o,F,S,q,k⟩=>by
  obtain⟨v,r,e,p,s⟩:=q.inv_cons
  exact⟨v,r,e,o,F,S,p,λu f w=>⟨f,F,w,s,k⟩⟩
theorem DGe.tup{k}(g:X.calm=true)(h:DGse X ts ds ρ ρ')(f:ts.all Br=true)(l:ds.length=ts.length):DGe X (.Tuple ts k pos) (.tup ds) ρ ρ':=λm o=>
 PG.mono (zxt (n:=ts.length) g (h m o) (zbf f).1 (zbf f).2) λv t H Q ⟨d,F,S,q,k⟩=>by
  obtain⟨a,p,e,s,r⟩:=q.tup
  exact⟨a,p,e,Same.tup S.sub s,by rw[r.length];exact l,d,F,S,r,k⟩
structure CompOk(X:Cx)(scope:Scope)(ts frees:List Str)(fr:List Nat):Prop where
 kind:scope.kind=.function
 cell:∀y∈scope.names,y.2 ≠ .cell
 names:∀y∈scope.names,y.2=.local->scope.names.lookup y.1=some .local
 all:∀y∈scope.names,y.2=.free->X.env.kindOf y.1=some .cell
 free:∀(m:Nat) (x:Str),frees[m]? = some x->scope.names.lookup x=some .free/\X.env.kindOf x=some .cell/\∃j:Nat,fr[m]? = some j/\X.N[j]? = some x
 len:fr.length=frees.length
def ygs(X:Cx)(scope:Scope)(N':List Str)(f:Cx):Prop:=∃g C d e ex,f=blk X scope g C N' d e ex
def zhi{e:List (Addr×Obj)}{s:Shared}{f:L2.St}{H:Hp}{scope:Scope}{ts d:List Str}{fr:List Nat}(I:Inv X e f H s)(g:CompOk X scope ts d fr):∀y∈scope.names,y.2=.free->∃c,X.env.cells.lookup y.1=some c:=
 λy h l=>I.ok.has y.1 (.inl (g.all y h l))
def DE.comp{z l:Expr}{r:List Expr}{scope:Scope}{ts h:List Str}{fr:List Nat}{g res:List D}{f:D->Option (Option D)}(t:X.calm=true)(q:CompOk X scope ts h fr)(hi:DIe X tg l ρ g)(hs:∀x,foldedSetIterable l X.env x=pure x)
 (N:g.length<=sizeLine)(A:zcp f g=some res)
 (B:∀(E:Cx),ygs X scope (ts++h) E->∀(d:D) (o:Option D),d∈g->f d=some o->∃p,DGe E tg d (blkR ts.length fr ρ) p/\(∀(i:Nat) d,(blkR ts.length fr ρ)[i]? = some (some d)->p[i]? = some (some d)) /\
   (match o with|none=>DTs E r p false|some e=>DTs E r p true/\DF E z p e)):
  DE X (.ListComp z [⟨tg,l,r,0⟩] scope pos) ρ (.new res):=by
 intro H0 Fc pins s O H Q I ⟨F,R,k⟩;rw[eval_ListComp];refine Gm (use:=none) rfl hs (yif (zhi I q)) q.kind q.names (thn (hi H0 Fc pins s O H (λJ G=>∃u,Same F u/\ER X.K H0 Fc u G O ρ/\Walks X.K u J g) I ⟨F,R,λJ G u s' P S=>⟨u,s',P,S⟩⟩) λv s1 h1=>thn h1 λa9 s2 h2=>?_);obtain⟨it,fp,tn,J,H1,w,I2,T,U,V,F1,W,R1,S⟩:=h2
 subst w;refine zkk (K:=X.K) rfl (σ':=blkR ts.length fr O) (ρ0:=blkR ts.length fr ρ) (N':=ts++h) I2 t T U V q.kind q.cell (zhi I q) R1 ?_ ?_ ?_ S N A (λC L M d o hd ho=>B _ ⟨_,C,L,M,fp,rfl⟩ d o hd ho) ?_
 ·rw[ztg,Z5,q.len]
 ·intro i d e;obtain⟨m,j,w,Y,Z⟩:=zdu e
  obtain⟨v,g1,g2⟩:=R1.env j d Z
  subst w;exact⟨v,yap Y g1,g2⟩
 ·intro i x v w Y;obtain⟨m,j,Z,e4,e5⟩:=zdu Y
  subst Z;rw[Yd vB,show ts.length+m-ts.length=m by omega] at w;obtain⟨g1,g2,j',g3,g4⟩:=q.free m x w
  rw[e4] at g3;cases g3;exact⟨g1,g2,j,g4,e5⟩
 ·intro D C s5 G u ys m I5 a0 a1 a2 a3 a4 a5 a6 P a7 a8 hD dn;refine⟨m,a0,λh' sb=>⟨.ref D,G,I5.turned (t':=s5.toks) (λb o hb e=>sb.extBut b o hb e) a1 a2 (.inr a3) a4 a5,rfl,k _ G u (W.trans a6) P (RW.n a7 a8 hD dn)⟩⟩
def DS.asgComp{i:Nat}{x:Str}{px B:Pos}{t h:Expr}{p:List Expr}{scope:Scope}{ts l:List Str}{fr:List Nat}{g res:List D}{f:D->Option (Option D)}{ρ:RhoS}(hN:X.N.Nodup)(a3:X.N[i]? = some x)(hx:Loc X.env.scope x)(hf:X.fn x=true\/X.env.scope.names.lookup x=some .local)(hl:i<ρ.length)
 (a4:swapsWith (.ListComp t [⟨tg,h,p,0⟩] scope pos) (some (.Name x px)) B.line X.env=pure true)
 (G:X.calm=true)(E:CompOk X scope ts l fr)(hi:DIe X tg h (view ρ) g)(hs:∀x,foldedSetIterable h X.env x=pure x)
 (a5:g.length<=sizeLine)(P:zcp f g=some res)
 (U:∀(V:Cx),ygs X scope (ts++l) V->∀(d:D) (o:Option D),d∈g->f d=some o->∃r,DGe V tg d (blkR ts.length fr (view ρ)) r/\(∀(i:Nat) d,(blkR ts.length fr (view ρ))[i]? = some (some d)->r[i]? = some (some d)) /\
   (match o with|none=>DTs V p r false|some e=>DTs V p r true/\DF V t r e)):
  DS X (.Assign [.Name x px] (.ListComp t [⟨tg,h,p,0⟩] scope pos) B) ρ (.nx ((after (.new res) ρ).set i (some (.ow res)))):=by
 intro H0 Fc pins s σ H D I ⟨F,S,k⟩;obtain⟨s0,R⟩:=S.borrow
 rw[exec_Assign_Name_used _ _ _ _ a4];refine Zd (Vd (Zd ?_));show wpAny _ X.A (do let _ <-comprehension (.ListComp t [⟨tg,h,p,0⟩] scope pos) scope X.env _ (newList []) false (eval h X.env) (some (assign (.Name x px) X.env))) _ _ s;refine Zd (Uq (Gm (use:=some (assign (.Name x px) X.env)) (Q:=λ_ s'=>SP X pins D .next s') rfl hs (yif (zhi I E)) E.kind E.names (thn (hi H0 Fc pins s σ H (λJ M=>∃L,Same (DL.borrow F H σ ρ) L/\ER X.K H0 Fc L M σ (view ρ)/\Walks X.K L J g) I ⟨_,R,λJ M L s' R' wk=>⟨L,s',R',wk⟩⟩) λv s1 h1=>thn h1 λaj s2 h2=>?_)) (λ_ s' hq=>Zs (Zs hq)) λ_ _ e=>e);obtain⟨it,fp,tn,J,H1,O,I2,T,a7,a8,F1,W,R1,wk⟩:=h2
 subst O;refine zkk (K:=X.K) rfl (σ':=blkR ts.length fr σ) (ρ0:=blkR ts.length fr (view ρ)) (N':=ts++l) I2 G T a7 a8 E.kind E.cell (zhi I E) R1 ?_ ?_ ?_ wk a5 P (λC Y Z d o hd ho=>U _ ⟨_,C,Y,Z,fp,rfl⟩ d o hd ho) ?_
 ·rw[ztg,Z5,E.len]
 ·intro i d e;obtain⟨m,j,O,e2,e3⟩:=zdu e
  obtain⟨v,g1,g2⟩:=R1.env j d e3
  subst O;exact⟨v,yap e2 g1,g2⟩
 ·intro i x v O e2;obtain⟨m,j,e3,e4,e5⟩:=zdu e2
  subst e3;rw[Yd vB,show ts.length+m-ts.length=m by omega] at O;obtain⟨g1,g2,j',g3,g4⟩:=E.free m x O
  rw[e4] at g3;cases g3;exact⟨g1,g2,j,g4,e5⟩
 ·intro Da C s5 M L ys m I5 a9 aa a0 ab a1 ae a2 R' af ag hD dn;have q:RW X.K H0 L M (.new res) (.ref Da):=RW.n af ag hD dn;obtain⟨F3,s3,S3,q3⟩:=S.after (W.trans a2) R' q
  refine wpAny_assign_Name (zms I5 hN a3 hx (v:=.ref Da) (u:=.ref Da) rfl (λs6 I6 ⟨a6,ah,ai⟩=>⟨m,?_,λh' sb=>?_⟩) hf)
  ·refine a9.sameBut ah (λz=>?_);rcases ai with w|w
   ·exact a0 (z.trans w)
   ·exact a1 x a6 w z.symm
  ·refine⟨_,M,I6.turned (t':=s6.toks) (λb o hb e=>sb.extBut b o hb e) aa a0 (.inr ab) a1 ae,k _ M F3 s3 (S3.bind q3 ?_ (Owned.not_after S (W.trans a2) q))⟩
   rw[<-S3.len,S.len];exact hl
end
open PySem L2 PyProof.Rows
structure TC where
 N:List Str
 sc:Scope
 fns:List (Str×Nat×Nat)
 rzs:List (Str×Nat×Nat)
 xs:Bool
def ixOf(x:Str):List Str->Option Nat
 |[]=>none
 |y::l=>if x=y then some 0 else(ixOf x l).map (· + 1)
theorem zds{x:Str}:∀{l:List Str}{i:Nat},ixOf x l=some i->l[i]? = some x
 |[],_,h=>by cases h
 |y::l,i,h=>by
  unfold ixOf at h;by_cases e:x=y
  ·rw[if_pos e] at h;cases h;simp[e]
  ·rw[if_neg e] at h;obtain⟨j,d,f⟩:=Zb.mp h
   subst f;simpa using zds d
def slot(c:TC)(x:Str):Option Nat:=
 if (x == ("__debug__" : Str))=true\/(x == ("__classdict__" : Str))=true then none else match c.sc.names.lookup x with
  |some .local=>ixOf x c.N
  |some .cell=>ixOf x c.N
  |_=>none
def isGl(c:TC)(x:Str):Bool:=!(x == ("__debug__" : Str)) && decide (c.sc.names.lookup x=some .globalImplicit)
def trOp:Operator->Option Op
 |.Add=>some .add
 |.Sub=>some .sub
 |.Mult=>some .mul
 |.FloorDiv=>some .fdiv
 |.Mod=>some .mod
 |.Pow=>some .pow
 |_=>none
def trCm:CmpOp->Option Cm
 |.Lt=>some .lt
 |.LtE=>some .le
 |.Gt=>some .gt
 |.GtE=>some .ge
 |.Eq=>some .eq
 |.NotEq=>some .ne
 |.Is=>some .isN
 |.IsNot=>some .notN
 |.In=>some .isin
 |.NotIn=>some .notin
def Bi.nm:Bi->String
 |.len => "len" | .abs => "abs" | .min => "min" | .max => "max" | .sum => "sum" | .srt => "sorted"
def trBi(x:Str):Option Bi:=if x=Str.ofString Bi.len.nm then some .len else if x=Str.ofString Bi.abs.nm then some .abs else if x=Str.ofString Bi.min.nm then some .min else if x=Str.ofString Bi.max.nm then some .max else if x=Str.ofString Bi.sum.nm then some .sum else if x=Str.ofString Bi.srt.nm then some .srt else none
inductive Hd where
 |fn (f n:Nat)|bi (b:Bi)|isi|lst|no
def zoe(c:TC)(x:Str):Hd:=
 if isGl c x=true then match c.fns.lookup x with
  |some (f,n)=>.fn f n
  |none=>match trBi x with
   |some b=>.bi b
   |none=>if x=("isinstance" : Str) then .isi else if x=("list" : Str) then .lst else .no
 else .no
def locs(sc:Scope):List Str:=sc.names.filterMap λy=>if y.2=NameKind.local then some y.1 else none
def frs'(sc:Scope):List Str:=sc.names.filterMap λy=>if y.2=NameKind.free then some y.1 else none
def relS(scope sc:Scope):Scope:={scope with names:=scope.names.map λ(n,k)=>if (k == NameKind.free && sc.kind == .function && sc.names.lookup n == some .cell)=true then(n,NameKind.cell) else(n,k)}
def frIx(N:List Str):List Str->Option (List Nat)
 |[]=>some []
 |x::l=>(ixOf x N).bind λi=>(frIx N l).map λr=>i::r
def zuv(c:TC)(scope:Scope):Bool:=
 decide (scope.kind=.function) && scope.names.all (λy=>decide (y.2 ≠ .cell)) && scope.names.all (λy=>decide (y.2=.local->scope.names.lookup y.1=some .local)) &&
 scope.names.all (λy=>decide (y.2=.free->c.sc.names.lookup y.1=some .cell/\scope.names.lookup y.1=some .free)) && decide ((locs scope++frs' scope).Nodup) && decide (c.sc.kind=.function)
def yeu:Expr->Bool
 |.Tuple _ _ _=>true
 |_=>false
def zyw:Expr->Bool
 |.Set _ _ _=>true
 |_=>false
def isB(c:TC)(x:Str)(y:String):Bool:=isGl c x && (c.fns.lookup x).isNone && decide (x=Str.ofString y)
def fmN(c:TC)(x:Str):List Expr->Option (Fm×List Expr)
 |[.Call (.Name y _) (a::d) [] _]=>if isB c x "list" = true/\isB c y "zip" = true then some (.zip,a::d) else none
 |_=>none
def fmT(c:TC)(x:Str):List Expr->Option (Fm×List Expr)
 |[a]=>if isB c x "tuple" = true then some (.tupl,[a]) else none
 |_=>none
def fmOf(c:TC)(x:Str)(d:List Expr):Option (Fm×List Expr):=match fmN c x d with
 |some r=>some r
 |none=>fmT c x d
def trI1(d:Expr->Option E)(c:TC)(f:Expr):Expr->Option It'
 |.Call (.Name x p) [a] [] q=>if isB c x "range" = true/\Br a=true then(d a).map It'.range1 else if isB c x "enumerate" = true/\Br a=true/\yeu f=true then(d a).map It'.enum else if isB c x "reversed" = true/\Br a=true then(d a).map It'.rev else(d (.Call (.Name x p) [a] [] q)).map It'.seq
 |.Call (.Name x p) [a,b] [] q=>if isB c x "zip" = true/\Br a=true/\Br b=true/\yeu f=true then(d a).bind λg=>(d b).map λh=>It'.zip g h else(d (.Call (.Name x p) [a,b] [] q)).map It'.seq
 |.Name x _=>(slot c x).map It'.seqV
 |e=>if zyw e=false then(d e).map It'.seq else none
def ycm(c:TC)(x:Str):Option Nat:=if c.sc.names.lookup x=some .local then ixOf x c.N else none
def zmu(c:TC):List Expr->Option (List Nat)
 |[]=>some []
 |.Name x _::d=>(ycm c x).bind λi=>(zmu c d).map λl=>i::l
 |_=>none
def yce(c:TC):Expr->Option Tg
 |.Name x _=>(ycm c x).map Tg.name
 |.Tuple d _ _=>(zmu c d).map Tg.tup
 |_=>none
def blkC(c:TC)(scope:Scope):TC:=⟨locs scope++frs' scope,relS scope c.sc,c.fns,c.rzs,c.xs⟩
def znh:Expr->Bool
 |.Name _ _=>true
 |.Constant _ _ _=>true
 |.Call _ _ _ _=>true
 |.Subscript _ _ _=>true
 |_=>false
def yja(d:Expr->Option E)(p:Pos):List Expr->Option E
 |[a]=>d a
 |a::b::e=>(d a).bind λf=>(d (.BoolOp .And (b::e) p)).map λg=>.and f g
 |[]=>none
def trOr(d:Expr->Option E)(p:Pos):List Expr->Option E
 |[a]=>d a
 |a::b::e=>(d a).bind λf=>(d (.BoolOp .Or (b::e) p)).map λg=>.or f g
 |[]=>none
def trB(d:Expr->Option E)(p:Pos)(e:List Expr):BoolOp->Option E
 |.And=>yja d p e
 |.Or=>trOr d p e
def trCp(d:Expr->Option E)(a:Expr):List CmpOp->List Expr->Option E
 |[e],[b]=>if behindInMarks e b=false then(trCm e).bind λo=>(d a).bind λf=>(d b).map λg=>.cmp o f g else none
 |_,_=>none
def trN(d:Expr->Option E)(a:Expr):UnaryOp->Option E
 |.Not=>(d a).map E.not
 |_=>none
def trT1(f:Expr->Option E)(g:Expr->Option E):Expr->Option E
 |.UnaryOp o a _=>trN g a o
 |.BoolOp o h p=>trB g p h o
 |.Compare a d l _=>trCp f a d l
 |e=>if znh e=true then f e else none
def zwd(d:Expr->Option E):List Expr->Option EO
 |[]=>some .non
 |[c]=>(d c).map EO.som
 |_=>none
def trK:Const->Option E
 |.int i=>some (.int i)
 |.bool b=>some (.bl b)
 |.none=>some .non
 |_=>none
def trU(d:Expr->Option E)(a:Expr):UnaryOp->Option E
 |.USub=>(d a).map E.neg
 |.Not=>(d a).map E.not
 |_=>none
def trLC(h:TC->Expr->Option E)(l:TC->Expr->Option E)(m:Expr->Option E)(c:TC)(d:Expr)(scope:Scope):List Comprehension->Option E
 |[⟨g,iter,f,0⟩]=>if zuv c scope=true then(trI1 m c g iter).bind λn=>(yce (blkC c scope) g).bind λt=>(frIx c.N (frs' scope)).bind λfr=>
   (h (blkC c scope) d).bind λe=>(zwd (l (blkC c scope)) f).map λk=>.comp e t n (locs scope).length fr k else none
 |_=>none
def trSb(d:Expr->Option E)(f:Option Expr->Option EO)(a:Expr):Expr->Option E
 |.Slice lo g none _=>(d a).bind λe=>(f lo).bind λl=>(f g).map λh=>.sl e l h
 |b=>if zdp b=true then(d a).bind λe=>(d b).map λm=>.ix e m else none
def trFd(d:Expr->Option E)(c:TC)(f:Str)(o:Expr):Option E:=
 if c.xs=true/\zxp o=true then(ixOf f flds).bind λj=>(d o).map λa=>.fld a j else none
def trIx(d:Expr->Option E)(c:TC)(f:Str)(x:Str)(g h:Pos)(e:Expr):Option E:=
 if f=("index" : Str)/\Br e=true/\(g.endLine == h.line)=true then(slot c x).bind λi=>(d e).map λb=>.idx (.var i) b else none
def trE1(s:TC->Expr->Option E)(r:TC->Expr->Option E)(d:Expr->Option E)(g:List Expr->Option Es)(u:Option Expr->Option EO)(c:TC):Expr->Option E
 |.Name x _=>(slot c x).map E.var
 |.Constant k _ _=>trK k
 |.BinOp a v b _=>(trOp v).bind λo=>(d a).bind λl=>(d b).map λm=>.bin o l m
 |.UnaryOp o a _=>trU d a o
 |.BoolOp o h p=>trB d p h o
 |.Compare a n w _=>trCp d a n w
 |.Tuple h _ _=>(g h).map E.tup
 |.List h _=>(g h).map E.lst
 |.ListComp q z scope _=>trLC s r d c q scope z
 |.Subscript a b _=>trSb d u a b
 |.IfExp t a b _=>(r c t).bind λA=>(d a).bind λl=>(d b).map λm=>.ife A l m
 |.Attribute o f _=>trFd d c f o
 |.Call (.Attribute (.Name x _) B C) [e] [] D=>trIx d c B x C D e
 |.Call (.Name x _) (e::h) [] _=>match fmOf c x (e::h) with
  |some (f,F)=>(g F).map (E.fm f)
  |none=>match zoe c x with
  |.fn f k=>if (e::h).length=k then(g (e::h)).map (E.call f) else none
  |.bi b=>(g (e::h)).map (E.bi b)
  |.isi=>none
  |.lst=>none
  |.no=>none
 |_=>none
mutual
def trE:Nat->TC->Expr->Option E
 |0,_,_=>none
 |n+1,c,e=>trE1 (trE n) (trT n) (trE n c) (trEs n c) (trO n c) c e
def trEs:Nat->TC->List Expr->Option Es
 |0,_,_=>none
 |n+1,c,[]=>some .nil
 |n+1,c,e::d=>if Br e=true then(trE n c e).bind λf=>(trEs n c d).map λl=>.cons f l else none
def trO:Nat->TC->Option Expr->Option EO
 |0,_,_=>none
 |n+1,c,none=>some .non
 |n+1,c,some e=>(trE n c e).map EO.som
def trT:Nat->TC->Expr->Option E
 |0,_,_=>none
 |n+1,c,e=>trT1 (trE n c) (trT n c) e
end
def zng{e:Expr}{env:Env}(h:znh e=true):∀d,isTrue e env d=(do let v <-d;standAt e.pos;holding [v] (truthy v)):=λd=>by
 cases e<;>first|rfl|(cases h;done)
abbrev zcy:List Str:=[Str.ofString "len",Str.ofString "abs",Str.ofString "isinstance",Str.ofString "int",Str.ofString "bool",Str.ofString "tuple",Str.ofString "list",Str.ofString "range",Str.ofString "enumerate",Str.ofString "min",Str.ofString "max",Str.ofString "sorted",Str.ofString "set",Str.ofString "reversed",Str.ofString "zip",Str.ofString "sum"]
structure XE(X:Cx)(c:TC)(Γ:Nat->∅):Prop where
 hN:X.N=c.N
 hsc:X.env.scope=c.sc
 nd:c.N.Nodup
 calm:X.calm=true
 kind:X.env.scope.kind=.function
 calls:∀x f n,c.fns.lookup x=some (f,n)->yin X x n (Γ f)
 xf:c.xs=true->BFacts X.K
 un:X.A.units+64<cLine
 blt:∀x∈zcy,X.mg x=none
structure XC(X:Cx)(c:TC)(Γ:Nat->∅):Prop extends XE X c Γ where
 fn:∀x,X.fn x=true
 po:PassesOwn (model X.prog X.w) X.A X.env X.xe
 rz:∀x f n,c.rzs.lookup x=some (f,n)->ypf X x n (Γ f)
 st:X.stack=X.env::X.outer
 fr:X.env.frame=some X.env.locals
 nx:X.nox=X
section
variable{X:Cx}{c:TC}{Γ:Nat->∅}
def zau(d:XE X c Γ){x:Str}{i:Nat}(h:slot c x=some i):X.N[i]? = some x/\Loc X.env.scope x/\(x == ("__debug__" : Str))=false/\(x == ("__classdict__" : Str))=false:=by
 unfold slot at h;by_cases z:(x == ("__debug__" : Str))=true\/(x == ("__classdict__" : Str))=true
 ·rw[if_pos z] at h;cases h
 ·rw[if_neg z] at h;have f:(x == ("__debug__" : Str))=false:=by
   cases q:(x == ("__debug__" : Str)) with
   |false=>rfl
   |true=>exact absurd (.inl q) z
  have g:(x == ("__classdict__" : Str))=false:=by
   cases q:(x == ("__classdict__" : Str)) with
   |false=>rfl
   |true=>exact absurd (.inr q) z
  split at h
  ·rename_i e;exact⟨by rw[d.hN];exact zds h,by rw[d.hsc];exact .inl e,f,g⟩
  ·rename_i e;exact⟨by rw[d.hN];exact zds h,by rw[d.hsc];exact .inr e,f,g⟩
  ·cases h
def Loc.vis{sc:Scope}{x:Str}(h:Loc sc x):Vis sc x:=by
 rcases h with h|h
 ·exact .inl h
 ·exact .inr (.inl h)
def zem(d:XE X c Γ){x:Str}(h:isGl c x=true):Gl X x/\(x == ("__debug__" : Str))=false:=by
 unfold isGl at h;rw[Zk] at h;refine⟨?_,by simpa using h.1⟩
 show X.env.scope.names.lookup x=_;rw[d.hsc];exact of_decide_eq_true h.2
def zer{f:Rho}{i:Nat}{d:D}(h:varD f i=some d):f[i]? = some (some d):=by
 unfold varD at h;split at h
 ·rename_i e;cases h;exact e
 ·cases h
def zdj{d:D}{i:Int}(h:dInt d=some i):d=.int i:=by
 cases d<;>first|(cases h;rfl)|(cases h;done)
def zuu{d:D}{i:Bool}(h:zbg d=some i):d=.bl i:=by
 cases d<;>first|(cases h;rfl)|(cases h;done)
def znp{o:Option W}{d:D}(h:o.map W.d=some d):∃w,o=some w/\w.d=d:=Zb.mp h
def ybj{f:Int->Int->Option W}{x y:D}{w:W}(h:arW f x y=some w):∃a b,x=.int a/\y=.int b/\f a b=some w:=by
 unfold arW at h;split at h
 ·exact⟨_,_,rfl,rfl,h⟩
 ·cases h
def op_ok{v A:Expr}{t:Operator}{o:Op}{x y:D}{w:W}{u:Rho}{pos:Pos}(B:trOp t=some o)(f:DF X v u x)(g:DF X A u y)(h:opW o x y=some w):DE X (.BinOp v t A pos) u w:=by
 have e:∀{a:Int}{n:Nat},a.natAbs<2^n->Builtin.Int.intBits a<=n:=λ{a n} h=>by
  unfold Builtin.Int.intBits;by_cases z:a=0
  ·rw[if_pos (by simpa using z)];exact Yj _
  ·rw[if_neg (by simpa using z)];have:=(Nat.log2_lt vB).mpr h
   omega
 cases t<;>first|(cases B;done)|skip
 all_goals cases B
 ·change addW x y=some w at h
  unfold addW at h;split at h
  ·cases h;exact DE.opI0 op_add f g λK F=>Den.int_mk
  ·rename_i l m;by_cases q:l.length+m.length<=sizeLine
   ·rw[if_pos q] at h;cases h;exact DE.cat f g q
   ·rw[if_neg q] at h;cases h
  ·cases h
 ·obtain⟨i,j,rfl,rfl,d⟩:=ybj h
  clear h;have h:=d;clear d;cases h;exact DE.opI0 op_sub f g λK F=>Den.int_mk
 ·obtain⟨i,j,rfl,rfl,d⟩:=ybj h
  clear h;have h:=d;clear d;by_cases q:Bz i j=true
  ·rw[if_pos q] at h;cases h;unfold Bz at q;rw[Zk] at q;have p:=of_decide_eq_true q.1;have s:=of_decide_eq_true q.2;exact DE.opI (C:=IntMulOk) (L2.opI λ_ _ _ _ _ _ _ r q=>mul_int q r) f g (PySem.IntMulOk.of_bits (Wc (e p) vA) (Wc (e s) vA)) λK F=>Den.int_mk
  ·rw[if_neg q] at h;cases h
 ·obtain⟨i,j,rfl,rfl,d⟩:=ybj h
  clear h;have h:=d;clear d;by_cases q:j=0
  ·rw[if_pos q] at h;cases h
  ·rw[if_neg q] at h;cases h;exact DE.opI yln f g q λK F=>Den.int_mk
 ·obtain⟨i,j,rfl,rfl,d⟩:=ybj h
  clear h;have h:=d;clear d;by_cases q:zfq i j=true
  ·rw[if_pos q] at h;cases h;unfold zfq at q;rw[Zk,Zk] at q;have p:=of_decide_eq_true q.1.1;have s:=of_decide_eq_true q.1.2;have E:=of_decide_eq_true q.2;exact DE.opI op_pow f g ⟨p,by omega,E⟩ λK F=>Den.int_mk
  ·rw[if_neg q] at h;cases h
 ·obtain⟨i,j,rfl,rfl,d⟩:=ybj h
  clear h;have h:=d;clear d;by_cases q:zbu j=true
  ·rw[if_pos q] at h;cases h;unfold zbu at q;rw[Zk] at q;have p:=of_decide_eq_true q.1;have s:=of_decide_eq_true q.2;refine DE.opI (C:=λi j=>j≠0/\j.natAbs<2^9000) (L2.opI λ_ _ _ _ _ _ _ r q=>floordiv_int r.1 q (.inl (PyProof.noPylong_of_log2 ?_))) f g ⟨p,s⟩ λK F=>Den.int_mk
   refine(Nat.log2_lt ?_).mpr r.2;have:=r.1
   omega
  ·rw[if_neg q] at h;cases h
end
open PySem L2 PyProof.Rows
section
variable{X:Cx}{c:TC}{Γ:Nat->∅}
def zea{a b:Bool}(h:(a && b)=true):a=true/\b=true:=by simpa using h
def zsb{f:Int->Int->Bool}{x y:D}{k:Bool}(h:ordO f x y=some k):∃a b,x=.int a/\y=.int b/\f a b=k:=by
 unfold ordO at h;split at h
 ·cases h;exact⟨_,_,rfl,rfl,rfl⟩
 ·cases h
def inO_s{x y:D}{k:Bool}(h:inO x y=some k):∃l,y=.lst l/\dOk 50 x=true/\dOkL 49 l=true/\(l.any λy=>eqD y x)=k:=by
 unfold inO at h;split at h
 ·split at h
  ·rename_i q;cases h;exact⟨_,rfl,(zea q).1,(zea q).2,rfl⟩
  ·cases h
 ·cases h
def yho{x y:D}{k:Bool}(h:nonO x y=some k):y=.non/\zoa x=k:=by
 unfold nonO at h;split at h
 ·cases h;exact⟨rfl,rfl⟩
 ·cases h
def yhy{x y:D}{k:Bool}(e:X.A.units+64<cLine)(h:eqO x y=some k):zcr X .Eq x y k/\zcr X .NotEq x y (!k):=by
 have f:∀{l:List D},dOkL 49 l=true->dOk 50 (.lst l)=true:=λq=>by simp only[dOk];exact q
 have g:∀{l:List D},dOkL 49 l=true->dOk 50 (.tup l)=true:=λq=>by simp only[dOk];exact q
 unfold eqO at h;split at h
 ·cases h;exact⟨yoe,yoa⟩
 ·cases h;exact⟨yof,yob⟩
 ·split at h
  ·rename_i q;cases h;have z:=yae (X:=X) e (g (zea q).1) (g (zea q).2);have d:=yad (X:=X) e (g (zea q).1) (g (zea q).2);simp only[eqD] at z d;exact⟨z,d⟩
  ·cases h
 ·split at h
  ·rename_i q;cases h;have z:=yae (X:=X) e (f (zea q).1) (f (zea q).2);have d:=yad (X:=X) e (f (zea q).1) (f (zea q).2);simp only[eqD] at z d;exact⟨z,d⟩
  ·cases h
 ·cases h
def yid{g:CmpOp}{o:Cm}{x y:D}{k:Bool}(f:X.A.units+64<cLine)(p:trCm g=some o)(h:cmpD o x y=some k):zcr X g x y k:=by
 cases g<;>first|(cases p;done)|skip
 all_goals cases p
 ·exact(yhy f h).1
 ·obtain⟨j,d,e⟩:=Zb.mp h
  subst e;exact(yhy f d).2
 ·obtain⟨a,b,rfl,rfl,rfl⟩:=zsb h
  exact cmp_lt
 ·obtain⟨a,b,rfl,rfl,rfl⟩:=zsb h
  exact cmp_le
 ·obtain⟨a,b,rfl,rfl,rfl⟩:=zsb h
  exact cmp_gt
 ·obtain⟨a,b,rfl,rfl,rfl⟩:=zsb h
  exact cmp_ge
 ·obtain⟨rfl,rfl⟩:=yho h
  exact yoc
 ·obtain⟨j,d,e⟩:=Zb.mp h
  subst e;obtain⟨rfl,rfl⟩:=yho d
  exact yfp
 ·obtain⟨l,rfl,m,n,rfl⟩:=inO_s h
  exact yod f m n
 ·obtain⟨j,d,e⟩:=Zb.mp h
  subst e;obtain⟨l,rfl,m,n,rfl⟩:=inO_s d
  exact yfq f m n
def zwe{x:Str}{t:Bi}(h:trBi x=some t):x=Str.ofString t.nm:=by
 unfold trBi at h;repeat' split at h
 all_goals first|(cases h;assumption)|(cases h;done)
def bi_ok{b:Bi}{d:List D}{w:W}(f:X.calm=true)(l:X.A.units+64<cLine)(h:biW b d=some w):zgw X (.builtin b.nm) d w:=by
 cases b
 ·change lenW d=_ at h
  unfold lenW at h;split at h
  ·cases h;exact yga
  ·cases h;exact yfz
  ·cases h
 ·change absW d=_ at h
  unfold absW at h;split at h
  ·cases h;exact yoo
  ·cases h
 ·change minW d=_ at h
  unfold minW at h;split at h
  ·cases h;exact yom f
  ·obtain⟨m,g,e⟩:=Zb.mp h
   subst e;exact yfx f l g
  ·cases h
 ·change maxW d=_ at h
  unfold maxW at h;split at h
  ·cases h;exact yon f
  ·obtain⟨m,h,e⟩:=Zb.mp h
   obtain⟨o,g,n⟩:=Za.mp h
   subst e;exact yfy f g n
  ·cases h
 ·cases h
 ·change srtW d=_ at h
  unfold srtW at h;split at h
  ·obtain⟨p,g,h⟩:=Za.mp h
   split at h
   ·rename_i q;cases h;exact yol f g q.1 q.2
   ·cases h
  ·cases h
def yok(b:Bi):bootBuiltins (Str.ofString b.nm)=some (.builtin b.nm):=by cases b<;>decide +kernel
def yas(b:Bi):Str.ofString b.nm ≠ "__name__" /\ Str.ofString b.nm∈zcy:=by cases b<;>decide +kernel
theorem zes:∀{n:Nat}{d:List Expr}{l:Es},trEs n c d=some l->d.all Br=true
 |0,_,_,h=>by simp only[trEs] at h;cases h
 |n+1,[],_,_=>rfl
 |n+1,e::d,l,h=>by
  simp only[trEs] at h;by_cases q:Br e=true
  ·rw[if_pos q] at h;obtain⟨f,_,h⟩:=Za.mp h
   obtain⟨g,h,_⟩:=Zb.mp h
   rw[Qc,q,zes h];rfl
  ·rw[if_neg q] at h;cases h
def ymz:∀{l:Es}{p:Rho}{m:List D}{n:Nat}{f:List Expr},trEs n c f=some l->evs Γ l p=some m->m.length=f.length:=by
 intro l p m n;induction n generalizing l m with
 |zero=>intro f h;simp only[trEs] at h;cases h
 |succ n r=>
  intro f h g;cases f with
  |nil=>
   simp only[trEs] at h;cases h;simp only[evs] at g;cases g;rfl
  |cons e f=>
   simp only[trEs] at h;by_cases q:Br e=true
   ·rw[if_pos q] at h;obtain⟨u,_,h⟩:=Za.mp h
    obtain⟨v,s,z⟩:=Zb.mp h
    subst z;simp only[evs] at g;obtain⟨d,_,g⟩:=Za.mp g
    obtain⟨t,o,z⟩:=Zb.mp g
    subst z;rw[Zr,Zr,r s o]
   ·rw[if_neg q] at h;cases h
def zze{x:Str}{f k:Nat}(e:XE X c Γ)(d:zoe c x=.fn f k):c.fns.lookup x=some (f,k)/\Gl X x/\(x == ("__debug__" : Str))=false:=by
 unfold zoe at d;split at d
 ·rename_i g;split at d
  ·rename_i l m h;cases d;exact⟨h,zem e g⟩
  ·split at d
   ·cases d
   ·split at d
    ·cases d
    ·split at d<;>cases d
 ·cases d
def zzf{x:Str}{b:Bi}(e:XE X c Γ)(d:zoe c x=.bi b):x=Str.ofString b.nm/\Gl X x/\(x == ("__debug__" : Str))=false:=by
 unfold zoe at d;split at d
 ·rename_i f;split at d
  ·cases d
  ·split at d
   ·rename_i h g;cases d;exact⟨zwe g,zem e f⟩
   ·split at d
    ·cases d
    ·split at d<;>cases d
 ·cases d
def zef(d:XE X c Γ){x:Str}{y:String}(h:isB c x y=true):Gl X x/\x=Str.ofString y:=by
 unfold isB at h;rw[Zk,Zk] at h;exact⟨(zem d h.1.1).1,of_decide_eq_true h.2⟩
def yfa{x:Str}{e g:List Expr}{f:Fm}(h:fmN c x e=some (f,g)):∃y l m a d,e=[.Call (.Name y l) (a::d) [] m]/\g=a::d/\((f=.zip/\isB c x "list" = true/\isB c y "zip" = true)):=by
 unfold fmN at h;split at h
 ·split at h
  ·rename_i q;cases h;exact⟨_,_,_,_,_,rfl,rfl,⟨rfl,q.1,q.2⟩⟩
  ·cases h
 ·cases h
def fm_ok(g:XE X c Γ){x:Str}{p pos:Pos}{u o:List Expr}{f:Fm}{v:List D}{w:W}{z:Rho}(e:fmOf c x u=some (f,o))(n:o.all Br=true)(B:DA X o z v)(d:fmW f v=some w):DE X (.Call (.Name x p) u [] pos) z w:=by
 have J:X.A.units+16<cLine:=by have:=g.un;omega
 unfold fmOf at e;split at e
 ·rename_i r C;cases e;obtain⟨y,K,L,a,E,rfl,rfl,h⟩:=yfa C
  rw[Qc,Zk] at n;rcases h with⟨rfl,q,F⟩
  ·obtain⟨s,t⟩:=zef g q
   obtain⟨G,H⟩:=zef g F
   subst t;subst H;unfold fmW at d;split at d
   all_goals first|(rename_i m;cases m;done)|skip
   all_goals first|(rename_i l m;cases m;done)|skip
   all_goals rename_i M N m
   ·split at d
    ·rename_i I;cases d;exact DE.nestT (ydy g.calm I) s (g.blt _ (by decide +kernel)) (by decide +kernel) vA vA G (g.blt _ (by decide +kernel)) (by decide +kernel) vA vA B n.1 n.2
    ·cases d
   ·cases d
 ·unfold fmT at e;split at e
  ·split at e
   ·rename_i a q;cases e;obtain⟨s,t⟩:=zef g q
    subst t;rw[Qc,Zk] at n;unfold fmW at d;split at d
    all_goals first|(rename_i m;cases m;done)|skip
    all_goals rename_i l m
    all_goals first|(cases m;done)|skip
    ·cases d;exact DE.ty yao s (g.blt _ (by decide +kernel)) (by decide +kernel) vA vA B n.1 n.2
    ·cases d
   ·cases e
  ·cases e
def zmy{d:D}{l:List D}(h:seqD d=some l):d=.lst l\/d=.tup l:=by
 cases d<;>first|(cases h;done)|(cases h;first|exact .inl rfl|exact .inr rfl)
def znt{d:D}{l:List D}(h:lstD d=some l):d=.lst l:=by
 cases d<;>first|(cases h;done)|(cases h;rfl)
def yiy{B:Expr->Option E}(r:XE X c Γ)(s:∀{e n o d},B e=some n->(ev Γ n o).map W.d=some d->DF X e o d){w e:Expr}{i:It'}{o:Rho}{l:List D}(h:trI1 B c w e=some i)(f:evW Γ i o=some l):DIe X w e o l/\zyw e=false:=by
 have N:∀{e n o k},B e=some n->((ev Γ n o).map W.d).bind dInt=some k->DF X e o (.int k):=λ{e n o k} h f=>by
  obtain⟨d,g,p⟩:=Za.mp f
  rw[zdj p] at g;exact s h g
 have C:∀{e n o l},B e=some n->evW Γ (.seq n) o=some l->DIe X w e o l:=λ{e n o l} h f=>by
  simp only[evW] at f;obtain⟨d,g,p⟩:=Za.mp f
  rcases zmy p with z|z
  ·subst z;exact DIe.list (s h g)
  ·subst z;exact DIe.tup (s h g)
 unfold trI1 at h;split at h
 ·refine⟨?_,rfl⟩
  split at h
  ·rename_i q;obtain⟨F,t,h⟩:=Zb.mp h
   subst h;simp only[evW] at f;obtain⟨m,O,f⟩:=Za.mp f
   split at f
   ·rename_i z;cases f;obtain⟨u,v⟩:=zef r q.1
    subst v;exact DIe.range1 u (r.blt _ (by decide +kernel)) (DA.cons (N t O) DA.nil q.2) q.2 z.1 z.2
   ·cases f
  ·split at h
   ·rename_i q;obtain⟨F,t,h⟩:=Zb.mp h
    subst h;simp only[evW] at f;obtain⟨P,G,f⟩:=Zb.mp f
    subst f;obtain⟨d,g,p⟩:=Za.mp G
    rw[znt p] at g;obtain⟨u,v⟩:=zef r q.1
    subst v;cases w<;>first|(cases q.2.2;done)|skip
    exact DIe.enum u (r.blt _ (by decide +kernel)) (DA.cons (s t g) DA.nil q.2.1) q.2.1
   ·split at h
    ·rename_i q;obtain⟨F,t,h⟩:=Zb.mp h
     subst h;simp only[evW] at f;obtain⟨P,G,f⟩:=Zb.mp f
     subst f;obtain⟨d,g,p⟩:=Za.mp G
     rw[znt p] at g;obtain⟨u,v⟩:=zef r q.1
     subst v;exact DIe.rev u (r.blt _ (by decide +kernel)) (DA.cons (s t g) DA.nil q.2) q.2
    ·obtain⟨n,A,h⟩:=Zb.mp h
     subst h;exact C A f
 ·refine⟨?_,rfl⟩
  split at h
  ·rename_i q;obtain⟨F,t,h⟩:=Za.mp h
   obtain⟨U,Q,h⟩:=Zb.mp h
   subst h;simp only[evW] at f;obtain⟨l1,H,f⟩:=Za.mp f
   obtain⟨l2,I,f⟩:=Za.mp f
   obtain⟨V,g,R⟩:=Za.mp H
   obtain⟨Y,p,S⟩:=Za.mp I
   split at f
   ·rename_i z;cases f;obtain⟨u,v⟩:=zef r q.1
    subst v;cases w<;>first|(cases q.2.2.2;done)|skip
    exact DIe.zg u (r.blt _ (by decide +kernel)) (DA.cons (s t g) (DA.cons (s Q p) DA.nil q.2.2.1) q.2.1) R S q.2.1 q.2.2.1 z
   ·cases f
  ·obtain⟨n,A,h⟩:=Zb.mp h
   subst h;exact C A f
 ·obtain⟨i,T,h⟩:=Zb.mp h
  subst h;simp only[evW] at f;obtain⟨d,g,p⟩:=Za.mp f
  obtain⟨J,K,L,M⟩:=zau r T
  refine⟨?_,rfl⟩
  rcases zmy p with z|z
  ·subst z;exact DIe.list (DF.var J (Loc.vis K) L M (zer g))
  ·subst z;exact DIe.tup (DF.var J (Loc.vis K) L M (zer g))
 ·split at h
  ·rename_i q;obtain⟨n,A,h⟩:=Zb.mp h
   subst h;exact⟨C A f,q⟩
  ·cases h
def ylv{e:Expr}{env:Env}(h:zyw e=false):∀x,foldedSetIterable e env x=pure x:=λx=>by
 cases e<;>first|(cases h;done)|rfl
def blk_xe(d:XE X c Γ){scope:Scope}(e:zuv c scope=true){f:Cx}(h:ygs X scope (locs scope++frs' scope) f):XE f (blkC c scope) Γ:=by
 obtain⟨o,C,g,l,ex,rfl⟩:=h
 unfold zuv at e;simp only[Zk,decide_eq_true_eq] at e;obtain⟨⟨⟨⟨⟨m,p⟩,q⟩,r⟩,n⟩,s⟩:=e
 refine⟨rfl,?_,n,d.calm,?_,d.calls,d.xf,d.un,d.blt⟩
 ·show relabel scope X.env=relS scope c.sc;rw[<-d.hsc];rfl
 ·show(relabel scope X.env).kind=.function;exact m
def yee{sc:Scope}{x:Str}(h:x∈frs' sc):(x,NameKind.free)∈sc.names:=by
 unfold frs' at h;obtain⟨y,d,e⟩:=Ur.mp h
 split at e
 ·rename_i k;cases e;rw[<-k];exact d
 ·cases e
theorem zss{N:List Str}:∀{l:List Str}{fr:List Nat},frIx N l=some fr->fr.length=l.length/\∀(m:Nat) (x:Str),l[m]? = some x->∃j:Nat,fr[m]? = some j/\N[j]? = some x
 |[],fr,h=>by simp only[frIx] at h;cases h;exact⟨rfl,λm x e=>by simp at e⟩
 |y::l,fr,h=>by
  simp only[frIx] at h;obtain⟨i,d,h⟩:=Za.mp h
  obtain⟨r,f,h⟩:=Zb.mp h
  subst h;obtain⟨g,n⟩:=zss f
  refine⟨by rw[Zr,Zr,g],λm x e=>?_⟩
  cases m with
  |zero=>simp at e;subst e;exact⟨i,by simp,zds d⟩
  |succ m=>simpa using n m x (by simpa using e)
def yny(d:XE X c Γ){scope:Scope}{fr:List Nat}(f:zuv c scope=true)(h:frIx c.N (frs' scope)=some fr):CompOk X scope (locs scope) (frs' scope) fr:=by
 unfold zuv at f;simp only[Zk,decide_eq_true_eq,Vb] at f;obtain⟨⟨⟨⟨⟨l,n⟩,o⟩,g⟩,v⟩,w⟩:=f
 obtain⟨p,q⟩:=zss h
 refine⟨l,n,o,λy r s=>?_,λm x e=>?_,p⟩
 ·show X.env.scope.names.lookup y.1=_;rw[d.hsc];exact(g y r s).1
 ·obtain⟨j,t,u⟩:=q m x e
  have:=g _ (yee (Yr e)) rfl
  refine⟨this.2,?_,j,t,by rw[d.hN];exact u⟩
  show X.env.scope.names.lookup x=_;rw[d.hsc];exact this.1
def zrp(d:XE X c Γ){x:Str}{i:Nat}(h:ycm c x=some i):X.N[i]? = some x/\X.env.scope.names.lookup x=some .local:=by
 unfold ycm at h;split at h
 ·rename_i k;exact⟨by rw[d.hN];exact zds h,by rw[d.hsc];exact k⟩
 ·cases h
def zeu{f e:Rho}{i:Nat}{d:D}(h:setE f i d=some e):i<f.length/\e=f.set i (some d):=by
 unfold setE at h;by_cases q:i<f.length
 ·rw[if_pos q] at h;cases h;exact⟨q,rfl⟩
 ·rw[if_neg q] at h;cases h
theorem zmt(r:XE X c Γ):∀{o:List Expr}{s:List Nat}{f:List D}{u m:Rho},zmu c o=some s->zch s f u=some m->DGse X o f u m/\o.all Br=true/\f.length=o.length
 |[],s,f,u,m,h,n=>by
  simp only[zmu] at h;cases h;cases f with
  |nil=>cases n;exact⟨DGse.nil,rfl,rfl⟩
  |cons d f=>cases n
 |t::o,s,f,u,m,h,n=>by
  unfold zmu at h;split at h
  ·rename_i z;cases z
  ·rename_i x p G z;cases z;obtain⟨i,v,h⟩:=Za.mp h
   obtain⟨l,w,h⟩:=Zb.mp h
   subst h;cases f with
   |nil=>cases n
   |cons d f=>
    simp only[zch] at n;obtain⟨A,B,n⟩:=Za.mp n
    obtain⟨q,e⟩:=zeu B
    subst e;obtain⟨g,C,g3⟩:=zmt r w n
    obtain⟨E,F⟩:=zrp r v
    exact⟨DGse.cons (DGe.name (by rw[r.hN];exact r.nd) E F q) g rfl,by rw[Qc,C];rfl,by rw[Zr,Zr,g3]⟩
  ·cases h
def ycd(m:XE X c Γ){o:Expr}{t:Tg}(h:yce c o=some t){d:D}{p n:Rho}(f:zbv t d p=some n):DGe X o d p n:=by
 unfold yce at h;split at h
 ·obtain⟨i,r,h⟩:=Zb.mp h
  subst h;simp only[zbv] at f;obtain⟨q,e⟩:=zeu f
  subst e;obtain⟨s,u⟩:=zrp m r
  exact DGe.name (by rw[m.hN];exact m.nd) s u q
 ·obtain⟨l,v,h⟩:=Zb.mp h
  subst h;cases d<;>first|(simp only[zbv] at f;cases f;done)|skip
  simp only[zbv] at f;obtain⟨g,w,g3⟩:=zmt m v f
  exact DGe.tup m.calm g w g3
 ·cases h
theorem zfj{o:Nat}{fr:List Nat}{ρ0:Rho}:∀{p:List Nat}{l:List D}{n f:Rho},(p.all λi=>decide (i<o))=true->zch p l n=some f->(∀(i:Nat) d,(blkR o fr ρ0)[i]? = some (some d)->n[i]? = some (some d))->∀(i:Nat) d,(blkR o fr ρ0)[i]? = some (some d)->f[i]? = some (some d)
 |[],l,n,f,_,g,h=>by
  cases l with
  |nil=>cases g;exact h
  |cons d l=>cases g
 |j::p,l,n,f,r,g,h=>by
  cases l with
  |nil=>cases g
  |cons d l=>
   rw[Qc,Zk] at r;simp only[zch] at g;obtain⟨s,t,g⟩:=Za.mp g
   obtain⟨q,e⟩:=zeu t
   subst e;refine zfj r.2 g λi u e=>?_;obtain⟨m,_,v,_,_⟩:=zdu e
   have:=of_decide_eq_true r.1
   rw[Yl vB];exact h i u e
def zol{h:Nat}{fr:List Nat}{ρ0:Rho}{t:Tg}{d:D}{g:Rho}(l:tgOk h t=true)(f:zbv t d (blkR h fr ρ0)=some g):∀(i:Nat) d,(blkR h fr ρ0)[i]? = some (some d)->g[i]? = some (some d):=by
 cases t with
 |name j=>
  simp only[zbv] at f;obtain⟨q,e⟩:=zeu f
  subst e;intro i n e;obtain⟨m,_,o,_,_⟩:=zdu e
  have:=of_decide_eq_true l
  rw[Yl vB];exact e
 |tup p=>
  cases d<;>first|(simp only[zbv] at f;cases f;done)|skip
  simp only[zbv] at f;exact zfj l f λi d e=>e
def ybl(X:Cx)(q s l:Expr)(m:List Expr)(scope:Scope)(r:Rho)(w:W):Prop:=∃(g n:List D) (f:D->Option (Option D)) (fr:List Nat),w=.new n/\CompOk X scope (locs scope) (frs' scope) fr/\DIe X s l r g/\(∀x,foldedSetIterable l X.env x=pure x)/\g.length<=sizeLine/\zcp f g=some n /\
 ∀(p:Cx),ygs X scope (locs scope++frs' scope) p->∀(d:D) (o:Option D),d∈g->f d=some o->∃h,DGe p s d (blkR (locs scope).length fr r) h/\(∀(i:Nat) d,(blkR (locs scope).length fr r)[i]? = some (some d)->h[i]? = some (some d)) /\
   (match o with|none=>DTs p m h false|some e=>DTs p m h true/\DF p q h e)
def zkj{n:Nat}(G:XE X c Γ)(V:∀{e g l d},trE n c e=some g->(ev Γ g l).map W.d=some d->DF X e l d)(Y:∀r B,XE r B Γ->∀e g l w,trE n B e=some g->ev Γ g l=some w->DE r e l w)
 (Z:∀r B,XE r B Γ->∀e g l k,trT n B e=some g->((ev Γ g l).map W.d).bind zbg=some k->DT r e l k){C H v:Expr}{s:List Expr}{scope:Scope}{g:E}{l:Rho}{w:W}
 (h:(if zuv c scope=true then(trI1 (trE n c) c H v).bind λR=>(yce (blkC c scope) H).bind λt=>(frIx c.N (frs' scope)).bind λfr=>
   (trE n (blkC c scope) C).bind λe=>(zwd (trT n (blkC c scope)) s).map λk=>E.comp e t R (locs scope).length fr k else none)=some g)(p:ev Γ g l=some w):ybl X C H v s scope l w:=by
 split at h
 case isFalse=>cases h
 rename_i S;obtain⟨R,I,h⟩:=Za.mp h
 obtain⟨t,ht,h⟩:=Za.mp h
 obtain⟨fr,J,h⟩:=Za.mp h
 obtain⟨e1,K,h⟩:=Za.mp h
 obtain⟨k,f,h⟩:=Zb.mp h
 subst h;simp only[ev] at p;obtain⟨items,hi,p⟩:=Za.mp p
 split at p
 case isFalse=>cases p
 rename_i z;obtain⟨a0,D,p⟩:=Zb.mp p
 subst p;obtain⟨d1,d2⟩:=yiy G (λh p=>V h p) I hi
 refine⟨_,_,_,_,rfl,yny G S J,d1,ylv d2,z.1,D,λr L d o hd q=>?_⟩
 obtain⟨F,T,q⟩:=Za.mp q
 obtain⟨U,u,q⟩:=Za.mp q
 have A:=blk_xe G S L;have m:DTs r s F U:=by
  revert f
  cases s with
  |nil=>
   intro f;simp only[zwd] at f;cases f;simp only[evc] at u;cases u;exact .inl ⟨rfl,rfl⟩
  |cons c1 rest=>
   cases rest with
   |nil=>
    intro f;simp only[zwd] at f;obtain⟨c2,M,f⟩:=Zb.mp f
    subst f;simp only[evc] at u;exact .inr ⟨c1,rfl,Z r _ A _ _ _ _ M u⟩
   |cons c2 rest=>
    intro f;simp only[zwd] at f;cases f
 refine⟨F,ycd A ht T,zol z.2 T,?_⟩
 cases U with
 |false=>
  rw[if_neg Zz] at q;cases q;exact m
 |true=>
  rw[if_pos rfl] at q;obtain⟨de,O,q⟩:=Zb.mp q
  subst q;obtain⟨w,P,Q⟩:=znp O
  subst Q;exact⟨m,(Y r _ A _ _ _ _ K P).df⟩
def zhw:∀n (X:Cx) (c:TC),XE X c Γ->(∀e s m w,trE n c e=some s->ev Γ s m=some w->DE X e m w)/\(∀D l m M,trEs n c D=some l->evs Γ l m=some M->DA X D m M) /\
  (∀o o' m i,trO n c o=some o'->evo Γ o' m=some i->DO X o m i)/\(∀e s m k,trT n c e=some s->((ev Γ s m).map W.d).bind zbg=some k->DT X e m k) /\
  (∀Q D p s m k,trT n c (.BoolOp Q D p)=some s->((ev Γ s m).map W.d).bind zbg=some k->DW X (.BoolOp Q D p) m k):=by
 intro n;induction n with
 |zero=>exact λX c B=>⟨λe s m w h=>by(simp only[trE] at h;cases h),λe s m w h=>by(simp only[trEs] at h;cases h),λe s m w h=>by(simp only[trO] at h;cases h),λe s m w h=>by(simp only[trT] at h;cases h),λQ D p s m w h=>by(simp only[trT] at h;cases h)⟩
 |succ n R=>
  intro X c B;obtain⟨S,I,iO,O,iW⟩:=R X c B
  have C:∀{e s m d},trE n c e=some s->(ev Γ s m).map W.d=some d->DF X e m d:=λ{e s m d} h g=>by
   obtain⟨w,L,T⟩:=znp g
   subst T;exact(S _ _ _ _ h L).df
  have Y:∀{e s m k},trE n c e=some s->((ev Γ s m).map W.d).bind zbg=some k->DF X e m (.bl k):=λ{e s m k} h g=>by
   obtain⟨d,L,T⟩:=Za.mp g
   rw[zuu T] at L;exact C h L
  have iI:∀{e s m k},trE n c e=some s->((ev Γ s m).map W.d).bind dInt=some k->DF X e m (.int k):=λ{e s m k} h g=>by
   obtain⟨d,L,T⟩:=Za.mp g
   rw[zdj T] at L;exact C h L
  have Z:∀Q D p s m k,trT (n+1) c (.BoolOp Q D p)=some s->((ev Γ s m).map W.d).bind zbg=some k->DW X (.BoolOp Q D p) m k:=by
   intro Q D p s m k h g;simp only[trT] at h;change trB _ p D Q=some s at h
   unfold trB at h;split at h
   ·unfold yja at h;split at h
    ·exact DW.and1 (O _ _ _ _ h g)
    ·obtain⟨J,u,h⟩:=Za.mp h
     obtain⟨P,A,h⟩:=Zb.mp h
     subst h;simp only[ev] at g;obtain⟨d,E,g⟩:=Za.mp g
     obtain⟨w,F,z⟩:=znp E
     subst z;obtain⟨k1,v,r⟩:=Za.mp F
     cases k1 with
     |true=>
      rw[if_pos rfl] at r;exact DW.andT (O _ _ _ _ u v) (iW _ _ _ _ _ _ A (by rw[r];exact g))
     |false=>
      rw[if_neg Zz] at r;cases r;cases g;exact DW.andF (O _ _ _ _ u v) zrv
    ·cases h
   ·unfold trOr at h;split at h
    ·exact DW.or1 (O _ _ _ _ h g)
    ·obtain⟨J,u,h⟩:=Za.mp h
     obtain⟨P,A,h⟩:=Zb.mp h
     subst h;simp only[ev] at g;obtain⟨d,E,g⟩:=Za.mp g
     obtain⟨w,F,z⟩:=znp E
     subst z;obtain⟨k1,v,r⟩:=Za.mp F
     cases k1 with
     |true=>
      rw[if_pos rfl] at r;cases r;cases g;exact DW.orT (O _ _ _ _ u v) zrv
     |false=>
      rw[if_neg Zz] at r;exact DW.orF (O _ _ _ _ u v) (iW _ _ _ _ _ _ A (by rw[r];exact g))
    ·cases h
  refine⟨λe s m w h g=>?_,λD l m M h g=>?_,λo o' m i h g=>?_,λe s m k h g=>?_,Z⟩
  ·simp only[trE] at h;unfold trE1 at h;split at h
   ·-- Name
    obtain⟨i,L,T⟩:=Zb.mp h
    subst T;simp only[ev] at g;obtain⟨d,h3,h4⟩:=Zb.mp g
    subst h4;obtain⟨a1,a2,a3,a4⟩:=zau B L
    exact(DF.var a1 (Loc.vis a2) a3 a4 (zer h3)).de
   ·unfold trK at h;split at h
    ·cases h;simp only[ev] at g;cases g;exact DF.cint.de
    ·cases h;simp only[ev] at g;cases g;exact DF.cbl.de
    ·cases h;simp only[ev] at g;cases g;exact DF.cnon.de
    ·cases h
   ·-- BinOp
    obtain⟨o,ho,h⟩:=Za.mp h
    obtain⟨J,u,h⟩:=Za.mp h
    obtain⟨P,A,h⟩:=Zb.mp h
    subst h;simp only[ev] at g;obtain⟨x,K,g⟩:=Za.mp g
    obtain⟨y,N,g⟩:=Za.mp g
    exact op_ok ho (C u K) (C A N) g
   ·unfold trU at h;split at h
    ·-- USub
     obtain⟨J,u,h⟩:=Zb.mp h
     subst h;simp only[ev] at g;obtain⟨i,U,g⟩:=Zb.mp g
     subst g;exact DE.neg (iI u U)
    ·-- Not
     obtain⟨J,u,h⟩:=Zb.mp h
     subst h;simp only[ev] at g;obtain⟨i,U,g⟩:=Zb.mp g
     subst g;exact DE.not (Y u U)
    ·cases h
   ·unfold trB at h;split at h
    ·unfold yja at h;split at h
     ·exact DE.one (S _ _ _ _ h g)
     ·-- And
      obtain⟨J,u,h⟩:=Za.mp h
      obtain⟨P,A,h⟩:=Zb.mp h
      subst h;simp only[ev] at g;obtain⟨k,v,g⟩:=Za.mp g
      cases k with
      |true=>
       rw[if_pos rfl] at g;exact DE.andT (Y u v) (S _ _ _ _ A g)
      |false=>
       rw[if_neg Zz] at g;cases g;exact DE.andF (Y u v)
     ·cases h
    ·unfold trOr at h;split at h
     ·exact DE.one (S _ _ _ _ h g)
     ·-- Or
      obtain⟨J,u,h⟩:=Za.mp h
      obtain⟨P,A,h⟩:=Zb.mp h
      subst h;simp only[ev] at g;obtain⟨k,v,g⟩:=Za.mp g
      cases k with
      |true=>
       rw[if_pos rfl] at g;cases g;exact DE.orT (Y u v)
      |false=>
       rw[if_neg Zz] at g;exact DE.orF (Y u v) (S _ _ _ _ A g)
     ·cases h
   ·unfold trCp at h;split at h
    ·-- Compare
     split at h
     case isFalse=>cases h
     rename_i V;obtain⟨o,ho,h⟩:=Za.mp h
     obtain⟨J,u,h⟩:=Za.mp h
     obtain⟨P,A,h⟩:=Zb.mp h
     subst h;simp only[ev] at g;obtain⟨x,K,g⟩:=Za.mp g
     obtain⟨y,N,g⟩:=Za.mp g
     obtain⟨k,v,g⟩:=Zb.mp g
     subst g;exact DE.cmp (yid B.un ho v) (C u K) (C A N) V
    ·cases h
   ·-- Tuple
    obtain⟨l,G,h⟩:=Zb.mp h
    subst h;simp only[ev] at g;obtain⟨M,r,g⟩:=Za.mp g
    by_cases q:M.length<=sizeLine
    ·rw[if_pos q] at g;cases g;exact DE.tup (I _ _ _ _ G r) q
    ·rw[if_neg q] at g;cases g
   ·-- List
    obtain⟨l,G,h⟩:=Zb.mp h
    subst h;simp only[ev] at g;obtain⟨M,r,g⟩:=Za.mp g
    by_cases q:M.length<=sizeLine
    ·rw[if_pos q] at g;cases g;exact DE.lst (I _ _ _ _ G r) q
    ·rw[if_neg q] at g;cases g
   ·unfold trLC at h;split at h
    ·-- a comprehension
     obtain⟨items,a7,f,fr,e1,hC,hI,hS,hz,hr,A⟩:=zkj B (λh g=>C h g) (λX' c' h=>(R X' c' h).1) (λX' c' h=>(R X' c' h).2.2.2.1) h g
     subst e1;exact DE.comp B.calm hC hI hS hz hr A
    ·cases h
   ·unfold trSb at h;split at h
    ·-- a slice
     obtain⟨J,u,h⟩:=Za.mp h
     obtain⟨l',G,h⟩:=Za.mp h
     obtain⟨h',hh,h⟩:=Zb.mp h
     subst h;simp only[ev] at g;obtain⟨x,K,g⟩:=Za.mp g
     obtain⟨i,U,g⟩:=Za.mp g
     obtain⟨j,hj,g⟩:=Za.mp g
     cases x<;>first|(cases g;done)|skip
     cases g;exact DE.slL (C u K) (iO _ _ _ _ G U) (iO _ _ _ _ hh hj)
    ·-- a subscript
     split at h
     ·rename_i hs;obtain⟨J,u,h⟩:=Za.mp h
      obtain⟨P,A,h⟩:=Zb.mp h
      subst h;simp only[ev] at g;obtain⟨x,K,g⟩:=Za.mp g
      obtain⟨y,N,g⟩:=Za.mp g
      obtain⟨d,r,g⟩:=Zb.mp g
      subst g;unfold ixD at r;split at r
      ·exact DE.ixT (C u K) (C A N) hs r
      ·exact DE.ixL (C u K) (C A N) hs r
      ·cases r
     ·cases h
   ·-- c if t else e
    obtain⟨t',ht,h⟩:=Za.mp h
    obtain⟨J,u,h⟩:=Za.mp h
    obtain⟨P,A,h⟩:=Zb.mp h
    subst h;simp only[ev] at g;obtain⟨k,v,g⟩:=Za.mp g
    cases k with
    |true=>rw[if_pos rfl] at g;exact DE.ifT (O _ _ _ _ ht v) (S _ _ _ _ u g)
    |false=>rw[if_neg vA] at g;exact DE.ifF (O _ _ _ _ ht v) (S _ _ _ _ A g)
   ·-- a field
    unfold trFd at h;split at h
    ·rename_i q;obtain⟨j,hj,h⟩:=Za.mp h
     obtain⟨J,u,h⟩:=Zb.mp h
     subst h;simp only[ev] at g;obtain⟨d,r,g⟩:=Zb.mp g
     obtain⟨x,K,r⟩:=Za.mp r
     subst g;cases x<;>first|(cases r;done)|skip
     exact DE.fld (B.xf q.1) (C u K) q.2 (zds hj) r
    ·cases h
   ·unfold trIx at h;split at h
    ·rename_i q;obtain⟨i,L,h⟩:=Za.mp h
     obtain⟨P,A,h⟩:=Zb.mp h
     subst h;simp only[ev] at g;obtain⟨d,r,g⟩:=Za.mp g
     obtain⟨y,N,g⟩:=Za.mp g
     obtain⟨w1,h3,h4⟩:=znp r
     obtain⟨d1,h5,h6⟩:=Zb.mp h3
     subst h6;subst h4;obtain⟨a1,a2,a3,a4⟩:=zau B L
     obtain⟨q1,q2,q3⟩:=q
     subst q1;cases d1<;>first|(cases g;done)|skip
     obtain⟨k,v,e⟩:=Zb.mp g
     subst e;exact DE.idx B.un (DF.var a1 (Loc.vis a2) a3 a4 (zer h5)) (C A N) q2 q3 v
    ·cases h
   ·-- a call
    rename_i x p e D pos;split at h
    ·rename_i f as hf;obtain⟨l,G,h⟩:=Zb.mp h
     subst h;simp only[ev] at g;obtain⟨M,r,g⟩:=Za.mp g
     exact fm_ok B hf (zes G) (I _ _ _ _ G r) g
    split at h
    ·rename_i f k hh;split at h
     ·rename_i v;obtain⟨l,G,h⟩:=Zb.mp h
      subst h;simp only[ev] at g;obtain⟨M,r,g⟩:=Za.mp g
      obtain⟨hf,g1,g2⟩:=zze B hh
      have H:=zes G;rw[Qc,Zk] at H;exact DE.call (B.calls _ _ _ hf) g1 g2 (I _ _ _ _ G r) ((ymz G r).trans v) g H.1 H.2
     ·cases h
    ·rename_i b hh;obtain⟨l,G,h⟩:=Zb.mp h
     subst h;simp only[ev] at g;obtain⟨M,r,g⟩:=Za.mp g
     obtain⟨e1,g1,g2⟩:=zzf B hh
     have H:=zes G;rw[Qc,Zk] at H;subst e1;exact DE.blt (bi_ok B.calm B.un g) g1 (B.blt _ (yas b).2) (yok b) (yas b).1 g2 (I _ _ _ _ G r) H.1 H.2
    ·cases h
    ·cases h
    ·cases h
   ·cases h
  ·cases D with
   |nil=>
    simp only[trEs] at h;cases h;simp only[evs] at g;cases g;exact DA.nil
   |cons e D=>
    simp only[trEs] at h;by_cases q:Br e=true
    ·rw[if_pos q] at h;obtain⟨s,he,h⟩:=Za.mp h
     obtain⟨l',h3,z⟩:=Zb.mp h
     subst z;simp only[evs] at g;obtain⟨d,r,g⟩:=Za.mp g
     obtain⟨a8,a0,z⟩:=Zb.mp g
     subst z;exact DA.cons (C he r) (I _ _ _ _ h3 a0) q
    ·rw[if_neg q] at h;cases h
  ·cases o with
   |none=>
    simp only[trO] at h;cases h;simp only[evo] at g;cases g;exact DO.none
   |some e=>
    simp only[trO] at h;obtain⟨s,he,h⟩:=Zb.mp h
    subst h;simp only[evo] at g;obtain⟨i,U,g⟩:=Zb.mp g
    subst g;exact DO.some (iI he U)
  ·have h0:=h;simp only[trT] at h;unfold trT1 at h;split at h
   ·unfold trN at h;split at h
    ·obtain⟨J,u,h⟩:=Zb.mp h
     subst h;simp only[ev] at g;obtain⟨d,E,g⟩:=Za.mp g
     obtain⟨w,F,z⟩:=znp E
     subst z;obtain⟨k1,v,r⟩:=Zb.mp F
     subst r;cases g;exact DT.not (O _ _ _ _ u v)
    ·cases h
   ·exact(Z _ _ _ _ _ _ h0 g).dt
   ·unfold trCp at h;split at h
    ·split at h
     case isFalse=>cases h
     rename_i V;obtain⟨o,ho,h⟩:=Za.mp h
     obtain⟨J,u,h⟩:=Za.mp h
     obtain⟨P,A,h⟩:=Zb.mp h
     subst h;simp only[ev] at g;obtain⟨d,E,g⟩:=Za.mp g
     obtain⟨w,F,z⟩:=znp E
     subst z;obtain⟨x,K,a5⟩:=Za.mp F
     obtain⟨y,N,a6⟩:=Za.mp a5
     obtain⟨k1,v,r⟩:=Zb.mp a6
     subst r;cases g;exact DT.cmp (yid B.un ho v) (C u K) (C A N) V
    ·cases h
   ·split at h
    ·rename_i hp;exact DT.val (Y h g) (zng hp)
    ·cases h
def zgn(f:XE X c Γ)(n:Nat):(∀e g d w,trE n c e=some g->ev Γ g d=some w->DE X e d w)/\(∀h l d m,trEs n c h=some l->evs Γ l d=some m->DA X h d m) /\
  (∀o p d i,trO n c o=some p->evo Γ p d=some i->DO X o d i):=⟨(zhw n X c f).1,(zhw n X c f).2.1,(zhw n X c f).2.2.1⟩
def zrk(h:XE X c Γ)(n:Nat):(∀e f g k,trT n c e=some f->((ev Γ f g).map W.d).bind zbg=some k->DT X e g k) /\
  (∀l m p f g k,trT n c (.BoolOp l m p)=some f->((ev Γ f g).map W.d).bind zbg=some k->DW X (.BoolOp l m p) g k):=⟨(zhw n X c h).2.2.2.1,(zhw n X c h).2.2.2.2⟩
end
open PySem L2 PyProof.Rows
def zfc:Expr->Bool
 |.ListComp _ _ _ _=>true
 |.SetComp _ _ _ _=>true
 |.DictComp _ _ _ _ _=>true
 |_=>false
def zim{e t:Expr}{d:Nat}{env:Env}(h:zfc e=false):swapsWith e (some t) d env=pure false:=by
 cases e<;>first|rfl|(cases h;done)
def ydx{e:Expr}{d:List Expr}{k:Nat}{p:Pos}{env:Env}(h:yeu e=false):swappedStores [.Tuple d k p] e env=pure none:=by
 cases e<;>first|(cases h;done)|rfl
def zyf{e a k:Expr}{p:Pos}{env:Env}:swappedStores [.Subscript a k p] e env=pure none:=by
 cases e<;>rfl
def ylu{e t:Expr}{d:Nat}{env:Env}(h:zfc e=false):swapsWithSole [t] e d env=pure false:=by
 unfold swapsWithSole;exact zim h
def swC(sc:Scope)(x:Str)(d pos:Pos)(scope:Scope):Bool:=decide (sc.names.lookup x=some NameKind.local) && (d.line == pos.line) && !(scope.names.any λ(n,k)=>n == x && (k == NameKind.local || k == NameKind.cell))
def ygx{x:Str}{g pos:Pos}{e:Expr}{h:List Comprehension}{scope:Scope}{d:Nat}{env:Env}(l:env.scope.kind=.function):swapsWith (.ListComp e h scope pos) (some (.Name x g)) d env=pure (swC env.scope x g pos scope):=by
 have f:env.blockKind=.function:=by unfold Env.blockKind;rw[l];rfl
 have m:(env.kindOf x == some NameKind.local)=decide (env.scope.names.lookup x=some NameKind.local):=by
  unfold Env.kindOf;by_cases q:env.scope.names.lookup x=some NameKind.local
  ·rw[q];rfl
  ·rw[decide_eq_false q];cases z:env.scope.names.lookup x with
   |none=>rfl
   |some k=>cases k<;>first|rfl|(exact absurd z q)
 show pure _=pure _;rw[f];unfold swC;rw[<-m];rfl
def yjh{x y:Str}{a b:Expr}{e f p r:Pos}{s g:Nat}{env:Env}(t:env.scope.kind=.function)(m:env.scope.names.lookup x=some .local)(n:env.scope.names.lookup y=some .local)(u:(e.line == f.line)=true)(d:x≠y)
 (v:Br a=true)(w:Br b=true)(z:([a,b].all (foldedForSure 8))=false)(A:([a,b].all (constantsAlone 8))=false):
  swappedStores [.Tuple [.Name x e,.Name y f] s p] (.Tuple [a,b] g r) env=pure (some [x,y]):=by
 have l:env.blockKind=.function:=by unfold Env.blockKind;rw[t];rfl
 have D:(env.kindOf x == some NameKind.local)=true:=by unfold Env.kindOf;rw[m];rfl
 have E:(env.kindOf y == some NameKind.local)=true:=by unfold Env.kindOf;rw[n];rfl
 have o:(y == x)=false:=by
  cases q:(y == x) with
  |false=>rfl
  |true=>exact absurd (eq_of_beq q).symm d
 have B:env.kindOf x=some NameKind.local:=m;have g:env.kindOf y=some NameKind.local:=n;have l1:f.line=e.line:=(eq_of_beq u).symm;have C:(Expr.Name x e).pos=e:=rfl;unfold swappedStores;simp only[Zr,Q4,l,z,A];simp[List.eraseDups,List.eraseDupsBy,List.eraseDupsBy.loop,o,d,Wz d]
 rw[if_neg (by
  rintro(h|h)
  ·revert v h;cases a<;>simp[Br]
  ·revert w h;cases b<;>simp[Br])]
 simp[K8,B,g,l1,C,List.eraseDups,List.eraseDupsBy,List.eraseDupsBy.loop,o,d,Wz d]
open PySem L2 PyProof.Rows
def slots(c:TC):List Expr->Option (List Nat)
 |[]=>some []
 |.Name x _::d=>(slot c x).bind λi=>(slots c d).map λl=>i::l
 |_=>none
def trTg(c:TC):Expr->Option Tg
 |.Name x _=>(slot c x).map Tg.name
 |.Tuple d _ _=>(slots c d).map Tg.tup
 |_=>none
def zwg(n:Nat)(c:TC)(x:Str):Expr->Option S
 |.ListComp d f scope pos=>if c.sc.kind=.function then(slot c x).bind λi=>(trE n c (.ListComp d f scope pos)).map (S.asg i) else none
 |e=>if zfc e=false then(slot c x).bind λi=>(trE n c e).map (S.asg i) else none
def zwf(n:Nat)(c:TC):List Expr->Expr->Option S
 |[.Name x d,.Name y f],.Tuple [a,b] _ _=>
  if (d.line == f.line)=true/\x≠y/\Br a=true/\Br b=true/\([a,b].all (foldedForSure 8))=false/\([a,b].all (constantsAlone 8))=false/\c.sc.names.lookup x=some .local/\c.sc.names.lookup y=some .local then
   (slot c x).bind λi=>(slot c y).bind λj=>(trE n c a).bind λg=>(trE n c b).map λh=>S.par i j g h
  else none
 |ts,e=>if zfc e=false/\yeu e=false then(slots c ts).bind λl=>(trE n c e).map (S.unp l) else none
def yiz(n:Nat)(c:TC)(e:Expr):Expr->Option S
 |.Name x _=>zwg n c x e
 |.Subscript (.Name x _) k _=>if zfc e=false/\zdp k=true then(slot c x).bind λi=>(trE n c k).bind λd=>(trE n c e).map (S.seti i d) else none
 |.Tuple f _ _=>zwf n c f e
 |_=>some .never
def yix(n:Nat)(c:TC):Expr->Option S
 |.Name x _=>(slot c x).map S.retV
 |e=>(trE n c e).map S.ret
def vN:Expr->Option Str
 |.Name x _=>some x
 |_=>none
def vN_s{s:Expr}{x:Str}(h:vN s=some x):∃p,s = .Name x p:=by
 unfold vN at h;split at h
 ·cases h;exact⟨_,rfl⟩
 ·cases h
def vCl:Expr->Option (Expr×List Expr×Pos)
 |.Call f d [] p=>some (f,d,p)
 |_=>none
def vAt:Expr->Option (Expr×Str×Pos)
 |.Attribute a m p=>some (a,m,p)
 |_=>none
def xV(e:Expr):Option (Str×Str×Pos×List Expr×Pos):=(vCl e).bind λp=>(vAt p.1).bind λq=>(vN q.1).map λx=>(x,q.2.1,q.2.2,p.2)
def vCl_s{s:Expr}{e:Expr×List Expr×Pos}(h:vCl s=some e):s = .Call e.1 e.2.1 [] e.2.2:=by
 unfold vCl at h;split at h
 ·cases h;rfl
 ·cases h
def vAt_s{s:Expr}{e:Expr×Str×Pos}(h:vAt s=some e):s = .Attribute e.1 e.2.1 e.2.2:=by
 unfold vAt at h;split at h
 ·cases h;rfl
 ·cases h
def xV_s{e:Expr}{x m:Str}{o q:Pos}{r:List Expr}(h:xV e=some (x,m,o,r,q)):∃p,e = .Call (.Attribute (.Name x p) m o) r [] q:=by
 unfold xV at h;obtain⟨⟨f,l,z⟩,d,h⟩:=Za.mp h
 obtain⟨⟨a,t,s⟩,g,h⟩:=Za.mp h
 obtain⟨y,n,h⟩:=Zb.mp h
 cases h;obtain⟨p,n⟩:=vN_s n
 have d:=vCl_s d;have g:=vAt_s g;dsimp only at d g n;exact⟨p,by rw[d,g,n]⟩
def trX2(n:Nat)(c:TC)(x m:Str)(d f:Pos):List Expr->Option S
 |[e]=>if m=("append" : Str)/\(d.endLine == f.line)=true/\Br e=true then(slot c x).bind λi=>(trE n c e).map (S.app i) else some .never
 |_=>some .never
def trX(n:Nat)(c:TC)(e:Expr):Option S:=match xV e with
 |some p=>trX2 n c p.1 p.2.1 p.2.2.1 p.2.2.2.2 p.2.2.2.1
 |none=>some .never
def trS1(n:Nat)(d:List Stmt->Option Ss)(c:TC):Stmt->Option S
 |.Assign [t] e _=>yiz n c e t
 |.Return (some e) _=>yix n c e
 |.If t a b _=>(trT n c t).bind λh=>(d a).bind λm=>(d b).map λf=>S.iff h m f
 |.While t b [] _=>(trT n c t).bind λh=>(d b).map λf=>S.whl h f
 |.For l o b [] _=>(trTg c l).bind λg=>(trI1 (trE n c) c l o).bind λi=>(d b).map λf=>S.frr g i f
 |.Expr e _=>trX n c e
 |_=>some .never
mutual
def trS:Nat->TC->Stmt->Option S
 |0,_,_=>none
 |n+1,c,s=>trS1 n (trSs n c) c s
def trSs:Nat->TC->List Stmt->Option Ss
 |0,_,_=>none
 |n+1,c,[]=>some .nil
 |n+1,c,s::l=>(trS n c s).bind λd=>(trSs n c l).map λe=>.cons d e
end
section
variable{X:Cx}{c:TC}{Γ:Nat->∅}
def zqe(l:XC X c Γ){n:Nat}{e:Expr}{f:E}{g:Rho}{d:D}(h:trE n c e=some f)(m:(ev Γ f g).map W.d=some d):DF X e g d:=by
 obtain⟨w,o,p⟩:=znp m
 subst p;exact((zgn l.toXE n).1 _ _ _ _ h o).df
def iI_ok(m:XC X c Γ){n:Nat}{e:Expr}{f:E}{g:Rho}{k:Int}(h:trE n c e=some f)(o:((ev Γ f g).map W.d).bind dInt=some k):DF X e g (.int k):=by
 obtain⟨d,l,p⟩:=Za.mp o
 rw[zdj p] at l;exact zqe m h l
def zet{e d:RhoS}{i:Nat}{b:B}(h:setR e i b=some d):i<e.length/\d=e.set i (some b):=by
 unfold setR at h;by_cases q:i<e.length
 ·rw[if_pos q] at h;cases h;exact⟨q,rfl⟩
 ·rw[if_neg q] at h;cases h
theorem zro(o:XC X c Γ):∀{r:List Expr}{s:List Nat}{f:List D}{u m:RhoS},slots c r=some s->zfz s f u=some m->DGs X r f u m/\r.all Br=true/\f.length=r.length
 |[],s,f,u,m,h,n=>by
  simp only[slots] at h;cases h;cases f with
  |nil=>cases n;exact⟨DGs.nil,rfl,rfl⟩
  |cons d f=>cases n
 |t::r,s,f,u,m,h,n=>by
  unfold slots at h;split at h
  ·rename_i z;cases z
  ·rename_i x p G z;cases z;obtain⟨i,v,h⟩:=Za.mp h
   obtain⟨l,w,h⟩:=Zb.mp h
   subst h;cases f with
   |nil=>cases n
   |cons d f=>
    simp only[zfz] at n;obtain⟨A,B,n⟩:=Za.mp n
    obtain⟨q,e⟩:=zet B
    subst e;obtain⟨g,C,g3⟩:=zro o w n
    obtain⟨E,F,H,I⟩:=zau o.toXE v
    refine⟨DGs.cons (DG.name (by rw[o.hN];exact o.nd) E F (.inl (o.fn _)) q) g rfl,by rw[Qc,C];rfl,by rw[Zr,Zr,g3]⟩
  ·cases h
def zwb(f:XC X c Γ){o:Expr}{t:Tg}(h:trTg c o=some t){d:D}{p n:RhoS}(m:zas t d p=some n):DG X o d p n:=by
 unfold trTg at h;split at h
 ·obtain⟨i,r,h⟩:=Zb.mp h
  subst h;simp only[zas] at m;obtain⟨q,e⟩:=zet m
  subst e;obtain⟨s,u,z,A⟩:=zau f.toXE r
  exact DG.name (by rw[f.hN];exact f.nd) s u (.inl (f.fn _)) q
 ·obtain⟨l,v,h⟩:=Zb.mp h
  subst h;cases d<;>first|(simp only[zas] at m;cases m;done)|skip
  ·simp only[zas] at m;obtain⟨g,w,g3⟩:=zro f v m
   exact DG.tup f.calm g w g3
 ·cases h
def DI.listV{s:Expr}{i:Nat}{x:Str}{p:Pos}{l:List D}{g:RhoS}(t:X.N[i]? = some x)(u:Vis X.env.scope x)(h:(x == ("__debug__" : Str))=false)(m:(x == ("__classdict__" : Str))=false)(w:g[i]? = some (~~~.lst l)):DI X s (.Name x p) g l g:=λJ K=>PI.mono (zpr (zax t u h m)) λL H R ⟨F,S,k⟩=>by
 obtain⟨v,z,A⟩:=S.env i _ w
 obtain⟨a,e,B,f,r⟩:=A.lst
 refine⟨v,z,a,B,⟨e,S.sub.seq f⟩,k _ H F (Same.refl _) S λi M n=>⟨λd h=>?_,λo=>⟨e,n.seq f,by rw[r.length];exact o⟩⟩⟩
 obtain⟨y,q,C⟩:=r.get h
 refine⟨⟨e,y,n.seq f,q⟩,λx E ⟨G,I⟩=>?_⟩
 have:=I e (n.seq f)
 rw[q] at this;cases this;exact .inl ⟨G,C⟩
def DI.tupV{s:Expr}{i:Nat}{x:Str}{p:Pos}{l:List D}{g:RhoS}(t:X.N[i]? = some x)(u:Vis X.env.scope x)(h:(x == ("__debug__" : Str))=false)(m:(x == ("__classdict__" : Str))=false)(w:g[i]? = some (~~~.tup l)):DI X s (.Name x p) g l g:=λJ K=>PI.mono (zxr (zax t u h m)) λL H R ⟨F,S,k⟩=>by
 obtain⟨v,z,A⟩:=S.env i _ w
 obtain⟨a,e,B,f,r⟩:=A.tup
 refine⟨v,z,a,B,⟨e,Same.tup S.sub f⟩,k _ H F (Same.refl _) S λi M n=>⟨λd h=>?_,λo=>⟨e,Same.tup n f,by rw[r.length];exact o⟩⟩⟩
 obtain⟨y,q,C⟩:=r.get h
 refine⟨⟨e,y,Same.tup n f,q⟩,λx E ⟨G,I⟩=>?_⟩
 have:=I e (Same.tup n f)
 rw[q] at this;cases this;exact .inl ⟨G,C⟩
def zws(m:XC X c Γ){n:Nat}{r e:Expr}{o:E}{p f:RhoS}{l:List D}(h:trE n c e=some o)(d:evI Γ (.seq o) p=some (l,f)):DI X r e p l f:=by
 simp only[evI] at d;obtain⟨w,q,d⟩:=Za.mp d
 split at d
 ·rename_i s g;cases d;exact DI.list ((zgn m.toXE n).1 _ _ _ _ h q) g
 ·rename_i s g;cases d;exact DI.tup ((zgn m.toXE n).1 _ _ _ _ h q) g
 ·cases d
def ygv(f:XC X c Γ){n:Nat}{u e:Expr}{i:It'}{v o:RhoS}{l:List D}(h:trI1 (trE n c) c u e=some i)(d:evI Γ i v=some (l,o)):DI X u e v l o/\zyw e=false:=by
 unfold trI1 at h;split at h
 ·refine⟨?_,rfl⟩
  split at h
  ·rename_i q;obtain⟨A,g,h⟩:=Zb.mp h
   subst h;simp only[evI] at d;obtain⟨m,J,d⟩:=Za.mp d
   split at d
   ·rename_i z;cases d;obtain⟨p,r⟩:=zef f.toXE q.1
    subst r;exact DI.range1 p (f.blt _ (by decide +kernel)) (DA.cons (iI_ok f g J) DA.nil q.2) q.2 z.1 z.2
   ·cases d
  ·split at h
   ·rename_i q;obtain⟨A,g,h⟩:=Zb.mp h
    subst h;simp only[evI] at d;obtain⟨w,K,d⟩:=Za.mp d
    split at d
    ·rename_i L M;cases d;obtain⟨p,r⟩:=zef f.toXE q.1
     subst r;have N:DF X _ (view v) (.lst L):=zqe f g (by rw[K];exact congrArg some M);cases u<;>first|(cases q.2.2;done)|skip
     exact DI.enum p (f.blt _ (by decide +kernel)) (DA.cons N DA.nil q.2.1) q.2.1
    ·cases d
   ·split at h
    ·obtain⟨A,g,h⟩:=Zb.mp h
     subst h;simp only[evI] at d;cases d
    ·obtain⟨I,s,h⟩:=Zb.mp h
     subst h;exact zws f s d
 ·refine⟨?_,rfl⟩
  split at h
  ·rename_i q;obtain⟨A,g,h⟩:=Za.mp h
   obtain⟨U,O,h⟩:=Zb.mp h
   subst h;simp only[evI] at d;obtain⟨l1,B,d⟩:=Za.mp d
   obtain⟨l2,C,d⟩:=Za.mp d
   obtain⟨V,P,Q⟩:=Za.mp B
   obtain⟨W,R,S⟩:=Za.mp C
   split at d
   ·rename_i z;cases d;obtain⟨p,r⟩:=zef f.toXE q.1
    subst r;cases u<;>first|(cases q.2.2.2;done)|skip
    exact DI.zg p (f.blt _ (by decide +kernel)) (DA.cons (zqe f g P) (DA.cons (zqe f O R) DA.nil q.2.2.1) q.2.1) Q S q.2.1 q.2.2.1 z
   ·cases d
  ·obtain⟨I,s,h⟩:=Zb.mp h
   subst h;exact zws f s d
 ·obtain⟨i,T,h⟩:=Zb.mp h
  subst h;simp only[evI] at d;obtain⟨E,F,G,H⟩:=zau f.toXE T
  refine⟨?_,rfl⟩
  unfold seqB at d;split at d
  ·rename_i t;cases d;exact DI.listV E (Loc.vis F) G H t
  ·rename_i t;cases d;exact DI.tupV E (Loc.vis F) G H t
  ·rename_i t;cases d;exact DI.list (w:=.val (.lst l)) (DF.de (DF.var E (Loc.vis F) G H (by unfold view;rw[Zh,t];rfl))) rfl
  ·cases d
 ·split at h
  ·rename_i q;obtain⟨I,s,h⟩:=Zb.mp h
   subst h;exact⟨zws f s d,q⟩
  ·cases h
def zhg{s:Stmt}{d:S}{e:RhoS}{o:Out}(h:some S.never=some d)(f:ex Γ d e=some o):DS X s e o:=by
 cases h;simp only[ex] at f;cases f
def yox(d:XC X c Γ){n:Nat}{x:Str}{G r:Pos}{e:Expr}{H:S}{m:RhoS}{o:Out}(h:zwg n c x e=some H)(g:ex Γ H m=some o):DS X (.Assign [.Name x G] e r) m o:=by
 unfold zwg at h;split at h
 ·rename_i I J p pos;split at h
  case isFalse=>cases h
  rename_i K;obtain⟨i,B,h⟩:=Za.mp h
  obtain⟨L,l,h⟩:=Zb.mp h
  subst h;simp only[ex] at g;obtain⟨w,u,g⟩:=Za.mp g
  obtain⟨C,D,g⟩:=Zb.mp g
  subst g;obtain⟨q,s⟩:=zet D
  subst s;obtain⟨v,z,M,N⟩:=zau d.toXE B
  have A:i<m.length:=by
   have:(after w m).length=m.length:=by unfold after;split;rfl;unfold frz;rw[Zc]
   rw[this] at q;exact q
  cases t:swC X.env.scope x G pos p with
  |false=>exact DS.asg (by rw[d.hN];exact d.nd) v z (.inl (d.fn _)) (by rw[ygx d.kind,t]) A ((zgn d.toXE n).1 _ _ _ _ l u)
  |true=>
   cases n with
   |zero=>simp only[trE] at l;cases l
   |succ n=>
    simp only[trE] at l;change trLC _ _ _ _ _ _ J=_ at l
    unfold trLC at l;split at l
    ·obtain⟨items,O,f,fr,s,P,Q,hS,R,T,U⟩:=zkj d.toXE (λh g=>zqe d h g) (λE F h=>(zhw n E F h).1) (λE F h=>(zhw n E F h).2.2.2.1) l u
     subst s;exact DS.asgComp (by rw[d.hN];exact d.nd) v z (.inl (d.fn _)) A (by rw[ygx d.kind,t]) d.calm P Q hS R T U
    ·cases l
 ·split at h
  ·rename_i V;obtain⟨i,B,h⟩:=Za.mp h
   obtain⟨L,l,h⟩:=Zb.mp h
   subst h;simp only[ex] at g;obtain⟨w,u,g⟩:=Za.mp g
   obtain⟨C,D,g⟩:=Zb.mp g
   subst g;obtain⟨q,s⟩:=zet D
   subst s;obtain⟨v,z,M,N⟩:=zau d.toXE B
   have A:i<m.length:=by
    have:(after w m).length=m.length:=by unfold after;split;rfl;unfold frz;rw[Zc]
    rw[this] at q;exact q
   exact DS.asg (by rw[d.hN];exact d.nd) v z (.inl (d.fn _)) (zim V) A ((zgn d.toXE n).1 _ _ _ _ l u)
  ·cases h
def yow(f:XC X c Γ){n:Nat}{r:List Expr}{k:Nat}{tp g:Pos}{e:Expr}{s:S}{t:RhoS}{o:Out}(h:zwf n c r e=some s)(d:ex Γ s t=some o):DS X (.Assign [.Tuple r k tp] e g) t o:=by
 unfold zwf at h;split at h
 ·split at h
  ·rename_i q;obtain⟨A,B,u,v,C,D,E,F⟩:=q
   obtain⟨i,l,h⟩:=Za.mp h
   obtain⟨j,G,h⟩:=Za.mp h
   obtain⟨R,H,h⟩:=Za.mp h
   obtain⟨T,I,h⟩:=Zb.mp h
   subst h;simp only[ex] at d;obtain⟨x,J,d⟩:=Za.mp d
   obtain⟨y,K,d⟩:=Za.mp d
   split at d
   ·rename_i z;cases d;obtain⟨L,U,V,W⟩:=zau f.toXE l
    obtain⟨M,Y,Z,b4⟩:=zau f.toXE G
    have m:=E;have p:=F;rw[<-f.hsc] at m p;exact DS.par f.calm (by rw[f.hN];exact f.nd) L M z.2.2.1 m p (DA.cons (zqe f H J) (DA.cons (zqe f I K) DA.nil v) u) z.2.2.2.1 z.2.2.2.2 z.1 z.2.1 (yjh f.kind m p A B u v C D)
   ·cases d
  ·cases h
 ·split at h
  ·rename_i q;obtain⟨is,l,h⟩:=Za.mp h
   obtain⟨e',N,h⟩:=Zb.mp h
   subst h;simp only[ex] at d;obtain⟨w,O,d⟩:=Za.mp d
   obtain⟨P,Q,d⟩:=Zb.mp d
   subst d;exact DS.asgT ((zgn f.toXE n).1 _ _ _ _ N O) (zwb f (by show(slots c _).map Tg.tup=_;rw[l];rfl) Q) (by unfold swapsWithSole;exact zim q.1) (ydx q.2) rfl
  ·cases h
def asg_ok(g:XC X c Γ){n:Nat}{t:Expr}{p:Pos}{e:Expr}{q:S}{r:RhoS}{o:Out}(h:yiz n c e t=some q)(f:ex Γ q r=some o):DS X (.Assign [t] e p) r o:=by
 unfold yiz at h;split at h
 ·exact yox g h f
 ·split at h
  ·rename_i s;obtain⟨i,u,h⟩:=Za.mp h
   obtain⟨J,v,h⟩:=Za.mp h
   obtain⟨K,z,h⟩:=Zb.mp h
   subst h;simp only[ex] at f;obtain⟨w,A,f⟩:=Za.mp f
   obtain⟨j,B,f⟩:=Za.mp f
   obtain⟨C,D,E,F⟩:=zau g.toXE u
   split at f
   ·rename_i l d G _;split at f
    ·rename_i H;obtain⟨m,I,f⟩:=Zb.mp f
     subst f;exact DS.seti C (Loc.vis D) E F G ((zgn g.toXE n).1 _ _ _ _ z A) (iI_ok g v B) H I s.2 (ylu s.1) zyf
    ·cases f
   ·cases f
  ·cases h
 ·exact yow g h f
 ·exact zhg h f
def ret_ok(m:XC X c Γ){n:Nat}{g:Pos}{e:Expr}{p:S}{q:RhoS}{o:Out}(h:yix n c e=some p)(f:ex Γ p q=some o):DS X (.Return (some e) g) q o:=by
 unfold yix at h;split at h
 ·obtain⟨i,v,h⟩:=Zb.mp h
  subst h;simp only[ex] at f;obtain⟨r,s,t,u⟩:=zau m.toXE v
  split at f
  ·rename_i l e;cases f;exact DS.retOwn r (Loc.vis s) t u e
  ·rename_i d e;cases f;refine DS.ret (DF.var r (Loc.vis s) t u ?_).de;unfold view;rw[Zh,e];rfl
  ·cases f
 ·obtain⟨B,z,h⟩:=Zb.mp h
  subst h;simp only[ex] at f;obtain⟨w,A,f⟩:=Zb.mp f
  subst f;exact DS.ret ((zgn m.toXE n).1 _ _ _ _ z A)
def x_ok(q:XC X c Γ){n:Nat}{g:Pos}{e:Expr}{r:S}{s:RhoS}{o:Out}(h:trX n c e=some r)(f:ex Γ r s=some o):DS X (.Expr e g) s o:=by
 unfold trX at h;split at h
 case h_2=>exact zhg h f
 rename_i p u;obtain⟨x,m,K,L,M⟩:=p
 obtain⟨N,rfl⟩:=xV_s u
 dsimp only at h;unfold trX2 at h;split at h
 ·split at h
  ·rename_i v;obtain⟨i,z,h⟩:=Za.mp h
   obtain⟨O,A,h⟩:=Zb.mp h
   subst h;simp only[ex] at f;obtain⟨w,B,f⟩:=Za.mp f
   obtain⟨C,D,E,F⟩:=zau q.toXE z
   split at f
   ·rename_i l d G;split at f
    ·rename_i t;cases f;obtain⟨H,I,J⟩:=v
     subst H;exact DS.app C (Loc.vis D) E F G ((zgn q.toXE n).1 _ _ _ _ A B) J t.1 t.2 I
    ·cases f
   ·cases f
  ·cases h;simp only[ex] at f;cases f
 ·exact zhg h f
def zwc(q:XC X c Γ):∀n,(∀s u p o,trS n c s=some u->ex Γ u p=some o->DS X s p o)/\(∀l A p o,trSs n c l=some A->exs Γ A p=some o->DSs X l p o):=by
 intro n;induction n with
 |zero=>exact⟨λe I p w h=>by(simp only[trS] at h;cases h),λe I p w h=>by(simp only[trSs] at h;cases h)⟩
 |succ n J=>
  obtain⟨E,r⟩:=J
  refine⟨λs u p o h f=>?_,λl A p o h f=>?_⟩
  ·simp only[trS] at h;unfold trS1 at h;split at h
   ·exact asg_ok q h f
   ·exact ret_ok q h f
   ·-- if
    obtain⟨K,v,h⟩:=Za.mp h
    obtain⟨T,L,h⟩:=Za.mp h
    obtain⟨F,t,h⟩:=Zb.mp h
    subst h;simp only[ex] at f;obtain⟨k,z,f⟩:=Za.mp f
    cases k with
    |true=>
     rw[if_pos rfl] at f;exact DS.ifT ((zrk q.toXE n).1 _ _ _ _ v z) (r _ _ _ _ L f)
    |false=>
     rw[if_neg Zz] at f;exact DS.ifF ((zrk q.toXE n).1 _ _ _ _ v z) (r _ _ _ _ t f)
   ·-- while
    obtain⟨K,v,h⟩:=Za.mp h
    obtain⟨F,t,h⟩:=Zb.mp h
    subst h;simp only[ex] at f;obtain⟨m,M⟩:=zjz f
    exact DS.while_ q.po (λp k z=>(zrk q.toXE n).1 _ _ _ _ v z) (λp o B=>r _ _ _ _ t B) M
   ·-- for
    obtain⟨g,N,h⟩:=Za.mp h
    obtain⟨i,O,h⟩:=Za.mp h
    obtain⟨F,t,h⟩:=Zb.mp h
    subst h;simp only[ex] at f;obtain⟨⟨l,C⟩,D,f⟩:=Za.mp f
    obtain⟨P,Q⟩:=ygv q O D
    exact DS.for_ q.po q.calm P (λd p R S=>zwb q N S) (λp o B=>r _ _ _ _ t B) f (ylv Q)
   ·exact x_ok q h f
   ·exact zhg h f
  ·cases l with
   |nil=>
    simp only[trSs] at h;cases h;simp only[exs] at f;cases f;exact DSs.nil
   |cons s l=>
    simp only[trSs] at h;obtain⟨u,G,h⟩:=Za.mp h
    obtain⟨l2,D,h⟩:=Zb.mp h
    subst h;simp only[exs] at f;obtain⟨o1,H,f⟩:=Za.mp f
    cases o1 with
    |nx C=>exact DSs.next (E _ _ _ _ G H) (r _ _ _ _ D f)
    |rt w=>cases f;exact DSs.ret (E _ _ _ _ G H)
end
open PySem L2 PyProof.Rows
def GFn(P:Program)(w:World)(K:vE)(e:Str->Option Value)(d:Heap)(k:Nat)(x:Str)(n:Nat)(g:∅):Prop:=
 ∃(a:Addr) (f:FuncData) (ps:List Str),FnOk P w K e d CX0 k a f ps (spD K n g)/\e x=some (.ref a)/\PySem.W.keepIn K (.ref a)=true/\Binds K f ps []
def GFr(P:Program)(w:World)(K:vE)(e:Str->Option Value)(d:Heap)(k:Nat)(x:Str)(n:Nat)(g:∅):Prop:=
 ∃(a:Addr) (f:FuncData) (ps:List Str),FnOk P w K e d (CX1 P w) k a f ps (spR K n g)/\e x=some (.ref a)/\PySem.W.keepIn K (.ref a)=true/\Binds K f ps []
section
variable{P:Program}{w:World}{K:vE}{mg:Str->Option Value}{base:Heap}
theorem GFn.mono{j k:Nat}{x:Str}{n:Nat}{d:∅}(G:GFn P w K mg base j x n d)(h:j<=k):GFn P w K mg base k x n d:=by
 obtain⟨a,e,ps,F,r⟩:=G
 exact⟨a,e,ps,F.mono h,r⟩
theorem GFn.imp{k:Nat}{x:Str}{n:Nat}{e f:∅}(G:GFn P w K mg base k x n e)(h:∀d w,d.length=n->f d=some w->e d=some w):GFn P w K mg base k x n f:=by
 obtain⟨a,l,ps,F,r⟩:=G
 refine⟨a,l,ps,F.imp λt H Q E ⟨m,d,w,o,p,g,q,s⟩=>⟨m,d,w,o,p,g,h d w g q,s⟩,r⟩
def zwm{N:List Str}{d:List V}{i:Nat}{v:V}(h:d[i]? = some v):(L2.start N d)[i]? = some (some v):=by
 unfold L2.start;have e:i<d.length:=(Zm.mp h).1;rw[Ya (by rw[Zc];exact e),Zh,h];rfl
def zrn{F:Hp}{H:Hp}{f:List D}{h:List V}{N:List Str}(s:Same F H)(n:DenL K F f h):SR K H F F H (L2.start N h) (f.map (λd=>~~~d)++List.replicate (N.length-f.length) none):=by
 have t:h.length=f.length:=n.length;refine⟨s,Same.refl _,Same.refl _,λa o e=>.inl e,λi d e=>?_,λi l e=>?_,λi j l m a e=>?_,?_⟩
 ·by_cases g:i<f.length
  ·rw[Ya (by rw[Zc];exact g),Zh] at e;cases q:f[i]? with
   |none=>rw[q] at e;cases e
   |some p=>
    rw[q] at e;cases e;obtain⟨v,u,r⟩:=n.get q
    exact⟨v,zwm u,r⟩
  ·rw[Yd (by rw[Zc];omega)] at e;rw[Wl] at e;split at e<;>cases e
 ·by_cases g:i<f.length
  ·rw[Ya (by rw[Zc];exact g),Zh] at e;cases q:f[i]? with
   |none=>rw[q] at e;cases e
   |some p=>rw[q] at e;cases e
  ·rw[Yd (by rw[Zc];omega)] at e;rw[Wl] at e;split at e<;>cases e
 ·by_cases g:i<f.length
  ·rw[Ya (by rw[Zc];exact g),Zh] at e;cases q:f[i]? with
   |none=>rw[q] at e;cases e
   |some p=>rw[q] at e;cases e
  ·rw[Yd (by rw[Zc];omega)] at e;rw[Wl] at e;split at e<;>cases e
 ·unfold L2.start;rw[Z5,Z5,Zc,Zc,Y5,Y5,t]
structure Deps(P:Program)(w:World)(K:vE)(mg:Str->Option Value)(base:Heap)(k:Nat)(Γ:Nat->∅)(fns rzs:List (Str×Nat×Nat))(xs:Bool):Prop where
 fns:∀x f n,fns.lookup x=some (f,n)->GFn P w K mg base k x n (Γ f)
 rzs:∀x f n,rzs.lookup x=some (f,n)->GFr P w K mg base k x n (Γ f)
 xf:xs=true->BFacts K
 blt:∀x∈zcy,mg x=none
def zvj{CX:CXT}{d:Str}{sc:Scope}{f:Addr}{N e:List Str}{k:Nat}{g l:List (Str×Nat×Nat)}{u:Bool}{Γ:Nat->∅}{m:Value}{A:Around}{outer:List Env}{s:Shared}{H:Hp}{E:XK}(S:FnScope N e sc)(o:Deps P w K mg base k Γ g l u)
 (p:Room k (A.deeper (envOfC d sc s.heap.objs.size f m))):XC (cxOf CX P w K mg base N d sc f m A outer s H E).nox ⟨N,sc,g,l,u⟩ Γ:=by
 refine⟨⟨rfl,rfl,S.nd,rfl,S.kind,λx f n h=>?_,o.xf,p.units,o.blt⟩,λ_=>rfl,PassesOwn.never,λx f n h=>?_,rfl,rfl,rfl⟩
 ·obtain⟨a,q,e,G,r,t,g3⟩:=o.fns x f n h
  exact⟨k,a,q,e,G,p,r,t,g3⟩
 ·obtain⟨a,q,e,G,r,t,g3⟩:=o.rzs x f n h
  exact⟨k,a,q,e,G,p,r,t,g3⟩
def zsu{x h:Str}{p:Stmt}{f:Addr}{L:FuncData}{N u:List Str}{k m:Nat}{l n:List (Str×Nat×Nat)}{M:Bool}{Γ:Nat->∅}{d:Ss}(F:Fun K x h p f L)(S:FnScope N u (Bn p))
 (z:trSs m ⟨N,Bn p,l,n,M⟩ (Bq p)=some d)(T:Deps P w K mg base k Γ l n M):
  FnOk P w K mg base CX0 (k+1) f L u (spD K u.length (run Γ d N.length)):=by
 refine F.ok S (λU H Q E ⟨B,V,w,O,C,R,g,G⟩=>by rw[C.length];exact R) (λX A outer s H U Q E Y ⟨B,V,wv,O,C,R,g,G⟩=>?_);have Z:=zvj (CX:=CX0) (E:=E) (outer:=outer) (H:=H) S T Y;unfold run at g;obtain⟨o,ho,g⟩:=Za.mp g
 have hS:=(zwc Z m).2 _ _ _ _ z ho;refine⟨_,hS H B,B,zrn O C,?_⟩
 cases o with
 |rt w'=>
  cases g;exact λv I J r q=>G v I J r.same r.base r.sub (λa o e=>r.new a o e) q
 |nx a0=>
  cases g;exact λa1 I J s' t=>G _ I J t.same t.base t.sub (λa o e=>t.new a o e) (RW.v Den.non_mk)
def gfn_of{x e:Str}{l:Stmt}{f:Addr}{p:FuncData}{N o:List Str}{k m n:Nat}{g h:List (Str×Nat×Nat)}{t:Bool}{Γ:Nat->∅}{d:Ss}{u:∅}(F:Fun K x e l f p)(S:FnScope N o (Bn l))(v:Binds K p o [])
 (z:mg x=some (.ref f))(q:trSs m ⟨N,Bn l,g,h,t⟩ (Bq l)=some d)(A:o.length=n)(B:Deps P w K mg base k Γ g h t)
 (r:∀s w,s.length=n->u s=some w->run Γ d N.length s=some w):GFn P w K mg base (k+1) x n u:=by
 subst A;exact GFn.imp ⟨f,p,o,zsu F S q B,z,F.kp,v⟩ r
end
open PySem L2 PyProof.Rows
def At(K:vE)(x:Str)(e:Stmt):Prop:=∃(f:Addr) (l:Value) (m:Option Addr) (kV g n:Value) (o:Option Addr) (d p:Value) (h:Array (Option Value)),
 PySem.W.nsIn K mainGlobals x=some (some (.ref f))/\K.lookup f=some ⟨l,m,.func (PySem.W.fnOf x x (zbj e) (Bq e) (Bn e) .none kV g n o d p),h⟩/\PySem.W.codeIn K d x=true/\PySem.W.keepIn K (.ref f)=true
def at_mk{K:vE}{x:Str}{h:Stmt}{f:Addr}{m:Value}{n:Option Addr}{kV e o:Value}{p:Option Addr}{d ct:Value}{g:Array (Option Value)}(a:PySem.W.nsIn K mainGlobals x=some (some (.ref f)))
 (l:K.lookup f=some ⟨m,n,.func (PySem.W.fnOf x x (zbj h) (Bq h) (Bn h) .none kV e o p d ct),g⟩)(c:PySem.W.codeIn K d x=true)(k:PySem.W.keepIn K (.ref f)=true):At K x h:=⟨f,m,n,kV,e,o,p,d,ct,g,a,l,c,k⟩
def Bnd(x:Str)(d:Stmt)(h:List Str):Prop:=∀(kV e l:Value) (m:Option Addr) (f n:Value) (g:List Value),g.length=h.length->bindArgs (PySem.W.fnOf x x (zbj d) (Bq d) (Bn d) .none kV e l m f n) ⟨g,[]⟩=pure (h.zip g)
def Calls(P:Program)(w:World)(K:vE)(g:Str->Option Value)(d:Heap)(k:Nat)(Γ:Nat->∅)(e:List (Str×Nat×Nat)):Prop:=∀x f n,e.lookup x=some (f,n)->GFn P w K g d k x n (Γ f)
def CallsR(P:Program)(w:World)(K:vE)(g:Str->Option Value)(d:Heap)(k:Nat)(Γ:Nat->∅)(e:List (Str×Nat×Nat)):Prop:=∀x f n,e.lookup x=some (f,n)->GFr P w K g d k x n (Γ f)
section
variable{P:Program}{w:World}{K:vE}{mg:Str->Option Value}{base:Heap}{Γ:Nat->∅}
def Calls.nil{k:Nat}:Calls P w K mg base k Γ []:=λx f n h=>by cases h
def Calls.cons{j k f n:Nat}{x:Str}{l:List (Str×Nat×Nat)}(h:GFn P w K mg base j x n (Γ f))(d:j<=k)(r:Calls P w K mg base k Γ l):Calls P w K mg base k Γ ((x,f,n)::l):=λy g m e=>by
 rw[Qv] at e;cases q:(y == x) with
 |true=>
  rw[q] at e;cases e;have:=eq_of_beq q
  subst this;exact h.mono d
 |false=>rw[q] at e;exact r y g m e
def CallsR.nil{k:Nat}:CallsR P w K mg base k Γ []:=λx f n h=>by cases h
def zaf{h:Heap}{x:Str}{e:Stmt}{N p:List Str}{k m n:Nat}{g o:List (Str×Nat×Nat)}{t:Bool}{d:Ss}{u:∅}(A:At K x e)(X:K.In h)(G:h.Ns mainGlobals mg)(S:FnScope N p (Bn e))(B:Bnd x e p)
 (q:trSs m ⟨N,Bn e,g,o,t⟩ (Bq e)=some d)(v:p.length=n)(z:Deps P w K mg base k Γ g o t)
 (r:∀s w,s.length=n->u s=some w->run Γ d N.length s=some w):GFn P w K mg base (k+1) x n u:=by
 obtain⟨f,J,L,kV,C,M,O,E,Q,H,a,l,c,I⟩:=A
 have F:=zsr (st:=e) l c I;exact gfn_of F S (F.binds B) (Ug X G a) q v z r
def law_at{h:Heap}{x p:Str}{g:Stmt}{N:List Str}{k m:Nat}{z:Addr}{n o:List (Str×Nat×Nat)}{C:Bool}{d:Ss}(A:At K x g)(X:K.In h)(G:h.Ns mainGlobals mg)(q:mg x=some (.ref z))(S:FnScope N [p] (Bn g))(B:Bnd x g [p])
 (r:trSs m ⟨N,Bn g,n,o,C⟩ (Bq g)=some d)(E:∀base:Heap,K.In base->base.Ns mainGlobals mg->Deps P w K mg base k Γ n o C):
  ∃D:FuncData,(∀(s:Shared) (v:Value),BindsTo s D ⟨[v],[]⟩ [(p,v)])/\∀base:Heap,K.In base->base.Ns mainGlobals mg->FnOk P w K mg base CX0 (k+1) z D [p] (spD K 1 (run Γ d N.length)):=by
 obtain⟨f,R,T,kV,t,H,I,u,J,L,a,l,c,M⟩:=A
 have e:=q.symm.trans (Ug X G a);cases e;have F:=zsr (st:=g) l c M;exact⟨_,λs v=>.of_eq (B kV t H I u J [v] rfl),λbase O Q=>zsu F S r (E base O Q)⟩
def yeq{n:Nat}{f:∅}(e:∀d:List Int,d.length<=n->f [.lst (d.map D.int)]=some (.val (.bl true)))(H:Hp)(a:Addr)(d:List Int)(g:d.length<=n)(hS:SqL K H a (d.map V.int)):
  spD K 1 f [.ref a] H (λv _=>v=.bl true) λ_ _ _=>False:=
 ⟨H,[.lst (d.map D.int)],.val (.bl true),Same.refl _,DenL.cons (Den.lst_mk hS (DenL.ints d)) DenL.nil,rfl,e d g,λv l h _ _ _ _ q=>(show Den K h (.bl true) v from q).bl⟩
def yfw{h:Heap}(X:K.In h)(G:h.Ns mainGlobals mg)(d:∀x∈zcy,PySem.W.nsIn K mainGlobals x=some none):∀x∈zcy,mg x=none:=λx e=>PySem.W.mg_none_of X G (d x e)
end
end DL
namespace DL
def bin2(f:D->D->Option W):Option D->Option D->Option W
 |some x,some y=>f x y
 |_,_=>none
def un1(f:D->Option W):Option D->Option W
 |some x=>f x
 |_=>none
def andO:Option Bool->Option W->Option W
 |some true,y=>y
 |some false,_=>some (.val (.bl false))
 |none,_=>none
def orO:Option Bool->Option W->Option W
 |some true,_=>some (.val (.bl true))
 |some false,y=>y
 |none,_=>none
def iffO{d:Type}:Option Bool->Option d->Option d->Option d
 |some true,x,_=>x
 |some false,_,y=>y
 |none,_,_=>none
def appL(f:∅):Option (List D)->Option W
 |some l=>f l
 |none=>none
def consO:Option D->Option (List D)->Option (List D)
 |some d,some l=>some (d::l)
 |_,_=>none
def slO:Option D->Option (Option Int)->Option (Option Int)->Option W
 |some x,some i,some j=>slD x i j
 |_,_,_=>none
def cmpW(c:Cm)(x y:D):Option W:=(cmpD c x y).map λk=>.val (.bl k)
def ixW(x y:D):Option W:=(ixD x y).map W.val
def negW:D->Option W
 |.int i=>some (.val (.int (-i)))
 |_=>none
def notW:Option Bool->Option W
 |some k=>some (.val (.bl (!k)))
 |none=>none
def tupW(d:List D):Option W:=if d.length<=PySem.sizeLine then some (.val (.tup d)) else none
def lstW(d:List D):Option W:=if d.length<=PySem.sizeLine then some (.new d) else none
def isxW(e:List PySem.Str)(d:D):Option W:=(isX e d).map λk=>.val (.bl k)
def isxW_n{d:List PySem.Str}:isxW d .non=some (.val (.bl false)):=rfl
def zipO(x y:Option D):Option (List D):=(x.bind sqD).bind λl=>(y.bind sqD).bind λm=>if l.length=m.length then some (zipD l m) else none
def fldO(j:Nat)(o:Option D):Option W:=(o.bind (fldD j)).map W.val
def fldO_s{a:PySem.Addr}{l:List D}{j:Nat}:fldO j (some (.obj a l))=l[j]?.map W.val:=rfl
section
variable{Γ:Nat->∅}{ρ:Rho}
def evd(Γ:Nat->∅)(e:E)(ρ:Rho):Option D:=(ev Γ e ρ).map W.d
def evb(Γ:Nat->∅)(e:E)(ρ:Rho):Option Bool:=(evd Γ e ρ).bind zbg
def ev_var{i:Nat}:ev Γ (.var i) ρ=(varD ρ i).map W.val:=by simp only[ev]
def ev_int{i:Int}:ev Γ (.int i) ρ=some (.val (.int i)):=by simp only[ev]
def ev_bl{i:Bool}:ev Γ (.bl i) ρ=some (.val (.bl i)):=by simp only[ev]
def ev_non:ev Γ .non ρ=some (.val .non):=by simp only[ev]
def ev_bin{o:Op}{a b:E}:ev Γ (.bin o a b) ρ=bin2 (opW o) (evd Γ a ρ) (evd Γ b ρ):=by
 simp only[ev,evd];cases(ev Γ a ρ)<;>cases(ev Γ b ρ)<;>rfl
def ev_neg{a:E}:ev Γ (.neg a) ρ=un1 negW (evd Γ a ρ):=by
 simp only[ev,evd];cases(ev Γ a ρ) with
 |none=>rfl
 |some w=>simp only[W4,Yg,un1];cases w.d<;>rfl
def ev_cmp{o:Cm}{a b:E}:ev Γ (.cmp o a b) ρ=bin2 (cmpW o) (evd Γ a ρ) (evd Γ b ρ):=by
 simp only[ev,evd];cases(ev Γ a ρ)<;>cases(ev Γ b ρ)<;>rfl
def ev_and{a b:E}:ev Γ (.and a b) ρ=andO (evb Γ a ρ) (ev Γ b ρ):=by
 simp only[ev,evd,evb];cases(Option.map W.d (ev Γ a ρ)).bind zbg with
 |none=>rfl
 |some k=>cases k<;>rfl
def ev_or{a b:E}:ev Γ (.or a b) ρ=orO (evb Γ a ρ) (ev Γ b ρ):=by
 simp only[ev,evd,evb];cases(Option.map W.d (ev Γ a ρ)).bind zbg with
 |none=>rfl
 |some k=>cases k<;>rfl
def ev_not{a:E}:ev Γ (.not a) ρ=notW (evb Γ a ρ):=by
 simp only[ev,evd,evb];cases(Option.map W.d (ev Γ a ρ)).bind zbg<;>rfl
def ev_tup{l:Es}:ev Γ (.tup l) ρ=appL tupW (evs Γ l ρ):=by
 simp only[ev];cases(evs Γ l ρ)<;>rfl
def ev_lst{l:Es}:ev Γ (.lst l) ρ=appL lstW (evs Γ l ρ):=by
 simp only[ev];cases(evs Γ l ρ)<;>rfl
def ev_ix{a b:E}:ev Γ (.ix a b) ρ=bin2 ixW (evd Γ a ρ) (evd Γ b ρ):=by
 simp only[ev,evd];cases(ev Γ a ρ)<;>cases(ev Γ b ρ)<;>rfl
def ev_sl{a:E}{d e:EO}:ev Γ (.sl a d e) ρ=slO (evd Γ a ρ) (evo Γ d ρ) (evo Γ e ρ):=by
 simp only[ev,evd];cases(ev Γ a ρ)<;>cases(evo Γ d ρ)<;>cases(evo Γ e ρ)<;>rfl
def yne{f:Nat}{l:Es}:ev Γ (.call f l) ρ=appL (Γ f) (evs Γ l ρ):=by
 simp only[ev];cases(evs Γ l ρ)<;>rfl
def ev_fld{a:E}{j:Nat}:ev Γ (.fld a j) ρ=fldO j (evd Γ a ρ):=by
 simp only[ev,evd,fldO]
def ev_ife{c a b:E}:ev Γ (.ife c a b) ρ=iffO (evb Γ c ρ) (ev Γ a ρ) (ev Γ b ρ):=by
 simp only[ev,evd,evb];cases(Option.map W.d (ev Γ c ρ)).bind zbg with
 |none=>rfl
 |some k=>cases k<;>rfl
def ev_idx{a b:E}:ev Γ (.idx a b) ρ=bin2 idxW (evd Γ a ρ) (evd Γ b ρ):=by
 simp only[ev,evd];cases(ev Γ a ρ)<;>cases(ev Γ b ρ)<;>rfl
def ev_bi{f:Bi}{l:Es}:ev Γ (.bi f l) ρ=appL (biW f) (evs Γ l ρ):=by
 simp only[ev];cases(evs Γ l ρ)<;>rfl
def ev_isx{a:E}{d:List PySem.Str}:ev Γ (.isx a d) ρ=un1 (isxW d) (evd Γ a ρ):=by
 simp only[ev,evd];cases(ev Γ a ρ)<;>rfl
def zzo:evs Γ .nil ρ=some []:=by simp only[evs]
def zsv{e:E}{l:Es}:evs Γ (.cons e l) ρ=consO (evd Γ e ρ) (evs Γ l ρ):=by
 simp only[evs,evd];cases(ev Γ e ρ)<;>cases(evs Γ l ρ)<;>rfl
def ynb:evo Γ .non ρ=some none:=by simp only[evo]
def yna{e:E}:evo Γ (.som e) ρ=((evd Γ e ρ).bind dInt).map some:=by simp only[evo,evd]
end
def yjd(Γ:Nat->∅):Option Out->Ss->Option Out
 |some (.nx d),l=>exs Γ l d
 |some (.rt w),_=>some (.rt w)
 |none,_=>none
def asgO(d:RhoS)(i:Nat):Option W->Option Out
 |some w=>(setR (after w d) i w.b).map Out.nx
 |none=>none
def unpO(e:RhoS)(f:List Nat):Option W->Option Out
 |some w=>(zas (.tup f) w.d (after w e)).map Out.nx
 |none=>none
def parO(d:RhoS)(i j:Nat):Option D->Option D->Option Out
 |some x,some y=>if lf x=true/\lf y=true/\i≠j/\i<d.length/\j<d.length then some (.nx ((d.set i (~~~x)).set j (~~~y))) else none
 |_,_=>none
def retO:Option W->Option Out
 |some w=>some (.rt w)
 |none=>none
def yko:Option (Option B)->Option Out
 |some (some (.ow l))=>some (.rt (.new l))
 |some (~~~d)=>some (.rt (.val d))
 |_=>none
def forO(d:D->RhoS->Option RhoS)(e:RhoS->Option Out):Option (List D×RhoS)->Option Out
 |some (l,f)=>forN d e l f
 |none=>none
def tryO(Γ:Nat->∅)(f g i j:Nat)(d:RhoS):Option (List D)->Option Out
 |some e=>match Γ g e with
  |some (.val (.exc z))=>if z∈zvk/\i≠j/\i<d.length then some (.nx (((frz d).set j none).set i (~~~.exc z))) else none
  |_=>(Γ f e).map λ_=>.nx (frz d)
 |none=>none
def outO:Option Out->Option W
 |some (.rt w)=>some w
 |some (.nx _)=>some (.val .non)
 |none=>none
def seqO(e:RhoS):Option W->Option (List D×RhoS)
 |some w=>match w.d with
  |.lst l=>some (l,after w e)
  |.tup l=>some (l,after w e)
  |_=>none
 |none=>none
def rng1O(d:RhoS):Option D->Option (List D×RhoS)
 |some (.int n)=>if -(2^62)<=n/\n<2^62 then some (zao 0 n.toNat,d) else none
 |_=>none
def enumO(d:RhoS):Option D->Option (List D×RhoS)
 |some (.lst l)=>some (zdb l,frz d)
 |_=>none
section
variable{Γ:Nat->∅}{ρ:RhoS}
def ymv:exs Γ .nil ρ=some (.nx ρ):=by simp only[exs]
def yfb{s:S}{l:Ss}:exs Γ (.cons s l) ρ=yjd Γ (ex Γ s ρ) l:=by
 simp only[exs];cases ex Γ s ρ with
 |none=>rfl
 |some o=>cases o<;>rfl
def ex_asg{i:Nat}{e:E}:ex Γ (.asg i e) ρ=asgO ρ i (ev Γ e (view ρ)):=by
 simp only[ex];cases ev Γ e (view ρ)<;>rfl
def ex_unp{d:List Nat}{e:E}:ex Γ (.unp d e) ρ=unpO ρ d (ev Γ e (view ρ)):=by
 simp only[ex];cases ev Γ e (view ρ)<;>rfl
def ex_par{i j:Nat}{a b:E}:ex Γ (.par i j a b) ρ=parO ρ i j (evd Γ a (view ρ)) (evd Γ b (view ρ)):=by
 simp only[ex,evd];cases ev Γ a (view ρ)<;>cases ev Γ b (view ρ)<;>rfl
def ex_ret{e:E}:ex Γ (.ret e) ρ=retO (ev Γ e (view ρ)):=by
 simp only[ex];cases ev Γ e (view ρ)<;>rfl
def ymy{i:Nat}:ex Γ (.retV i) ρ=yko ρ[i]?:=by
 simp only[ex];cases ρ[i]? with
 |none=>rfl
 |some o=>cases o with
  |none=>rfl
  |some b=>cases b<;>rfl
def ex_iff{c:E}{a b:Ss}:ex Γ (.iff c a b) ρ=iffO (evb Γ c (view ρ)) (exs Γ a ρ) (exs Γ b ρ):=by
 simp only[ex,evB,evb,evd];cases(Option.map W.d (ev Γ c (view ρ))).bind zbg with
 |none=>rfl
 |some k=>cases k<;>rfl
def ex_whl{c:E}{b:Ss}:ex Γ (.whl c b) ρ=zhp (evB Γ c) (exs Γ b) ρ:=by simp only[ex]
def ex_frr{t:Tg}{d:It'}{b:Ss}:ex Γ (.frr t d b) ρ=forO (zas t) (exs Γ b) (evI Γ d ρ):=by
 simp only[ex];cases evI Γ d ρ<;>rfl
def ymw{f g:Nat}{l:Es}{i j:Nat}:ex Γ (.tryC f g l i j) ρ=tryO Γ f g i j ρ (evs Γ l (view ρ)):=by
 simp only[ex];cases evs Γ l (view ρ) with
 |none=>rfl
 |some h=>
  rw[Yg];unfold tryO;cases e:Γ g h with
  |none=>simp only[e]
  |some w=>cases w with
   |new l=>simp only[e]
   |val d=>cases d<;>simp only[e]
def evB_eq{c:E}:evB Γ c ρ=evb Γ c (view ρ):=rfl
def ynk{e:E}:evI Γ (.seq e) ρ=seqO ρ (ev Γ e (view ρ)):=by
 simp only[evI];cases ev Γ e (view ρ)<;>rfl
def yfd{i:Nat}:evI Γ (.seqV i) ρ=seqB ρ ρ[i]?:=by simp only[evI]
def seqB_l{l:List D}:seqB ρ (some (~~~.lst l))=some (l,ρ):=rfl
def seqB_t{l:List D}:seqB ρ (some (~~~.tup l))=some (l,ρ):=rfl
def seqB_o{l:List D}:seqB ρ (some (some (.ow l)))=some (l,frz ρ):=rfl
def zus{e:E}:evI Γ (.range1 e) ρ=rng1O ρ (evd Γ e (view ρ)):=by
 simp only[evI,evd];cases ev Γ e (view ρ) with
 |none=>rfl
 |some w=>simp only[W4,Yg];cases w.d<;>rfl
def ynj{a b:E}:evI Γ (.zip a b) ρ=(zipO (evd Γ a (view ρ)) (evd Γ b (view ρ))).map λl=>(l,frz ρ):=by
 simp only[evI,evd,zipO];cases((ev Γ a (view ρ)).map W.d).bind sqD with
 |none=>rfl
 |some l=>
  cases((ev Γ b (view ρ)).map W.d).bind sqD with
  |none=>rfl
  |some m=>
   simp only[Yg];by_cases e:l.length=m.length
   ·rw[if_pos e,if_pos e];rfl
   ·rw[if_neg e,if_neg e];rfl
def yfe{e:E}:evI Γ (.enum e) ρ=enumO ρ (evd Γ e (view ρ)):=by
 simp only[evI,evd];cases ev Γ e (view ρ) with
 |none=>rfl
 |some w=>simp only[W4,Yg];cases w.d<;>rfl
def run_eq{b:Ss}{n:Nat}{e:List D}:run Γ b n e=outO (exs Γ b (e.map (λd=>~~~d)++List.replicate (n-e.length) none)):=by
 unfold run;cases exs Γ b (e.map (λd=>~~~d)++List.replicate (n-e.length) none) with
 |none=>rfl
 |some o=>cases o<;>rfl
end
section
variable{Γ:Nat->∅}{ρ:RhoS}
def bin2_s{f:D->D->Option W}{x y:D}:bin2 f (some x) (some y)=f x y:=rfl
def un1_s{f:D->Option W}{x:D}:un1 f (some x)=f x:=rfl
def andO_t{y:Option W}:andO (some true) y=y:=rfl
def andO_f{y:Option W}:andO (some false) y=some (.val (.bl false)):=rfl
def orO_t{y:Option W}:orO (some true) y=some (.val (.bl true)):=rfl
def orO_f{y:Option W}:orO (some false) y=y:=rfl
def iffO_t{d:Type}{x y:Option d}:iffO (some true) x y=x:=rfl
def iffO_f{d:Type}{x y:Option d}:iffO (some false) x y=y:=rfl
def appL_s{f:∅}{l:List D}:appL f (some l)=f l:=rfl
def ynw{d:D}{l:List D}:consO (some d) (some l)=some (d::l):=rfl
def slO_s{x:D}{i j:Option Int}:slO (some x) (some i) (some j)=slD x i j:=rfl
def notW_s{k:Bool}:notW (some k)=some (.val (.bl (!k))):=rfl
def ycg{l:Ss}:yjd Γ (some (.nx ρ)) l=exs Γ l ρ:=rfl
def ycf{l:Ss}{w:W}:yjd Γ (some (.rt w)) l=some (.rt w):=rfl
def asgO_s{i:Nat}{w:W}:asgO ρ i (some w)=(setR (after w ρ) i w.b).map Out.nx:=rfl
def unpO_s{e:List Nat}{w:W}:unpO ρ e (some w)=(zas (.tup e) w.d (after w ρ)).map Out.nx:=rfl
def parO_s{i j:Nat}{x y:D}:parO ρ i j (some x) (some y)=if lf x=true/\lf y=true/\i≠j/\i<ρ.length/\j<ρ.length then some (.nx ((ρ.set i (~~~x)).set j (~~~y))) else none:=rfl
def retO_s{w:W}:retO (some w)=some (.rt w):=rfl
def ykn{l:List D}:yko (some (some (.ow l)))=some (.rt (.new l)):=rfl
def ykm{d:D}:yko (some (~~~d))=some (.rt (.val d)):=rfl
def forO_s{d:D->RhoS->Option RhoS}{e:RhoS->Option Out}{l:List D}:forO d e (some (l,ρ))=forN d e l ρ:=rfl
def yli{w:W}:outO (some (.rt w))=some w:=rfl
def ylj:outO (some (.nx ρ))=some (.val .non):=rfl
def yka{l:List D}:seqO ρ (some (.new l))=some (l,after (.new l) ρ):=rfl
def yjz{l:List D}:seqO ρ (some (.val (.lst l)))=some (l,after (.val (.lst l)) ρ):=rfl
def yjy{l:List D}:seqO ρ (some (.val (.tup l)))=some (l,after (.val (.tup l)) ρ):=rfl
def ynm{l:List D}:enumO ρ (some (.lst l))=some (zdb l,frz ρ):=rfl
def ykf{n:Int}:rng1O ρ (some (.int n))=if -(2^62)<=n/\n<2^62 then some (zao 0 n.toNat,ρ) else none:=rfl
def varD_0{o:Option D}{r:Rho}:varD (o::r) 0=o:=by cases o<;>rfl
def varD_s{o:Option D}{r:Rho}{i:Nat}:varD (o::r) (i+1)=varD r i:=rfl
def ybo:view []=[]:=rfl
def zvq{o:Option B}{r:RhoS}:view (o::r)=o.map B.d::view r:=rfl
def ypc{i:Int}:after (.val (.int i)) ρ=ρ:=rfl
def ypd{i:Bool}:after (.val (.bl i)) ρ=ρ:=rfl
def ypb:after (.val .non) ρ=ρ:=rfl
def Wd_v{d:D}:(W.val d).d=d:=rfl
def Wd_n{l:List D}:(W.new l).d=.lst l:=rfl
def Wb_v{d:D}:(W.val d).b=.sh d:=rfl
def Wb_n{l:List D}:(W.new l).b=.ow l:=rfl
def Bd_s{d:D}:(B.sh d).d=d:=rfl
def Bd_o{l:List D}:(B.ow l).d=.lst l:=rfl
def yns{k:Bool}:zbg (.bl k)=some k:=rfl
def yaa{k:Int}:dInt (.int k)=some k:=rfl
def setR_0{o:Option B}{b:B}:setR (o::ρ) 0 b=some (some b::ρ):=rfl
def setR_s{o:Option B}{i:Nat}{b:B}:setR (o::ρ) (i+1) b=(setR ρ i b).map (o :: ·):=by
 unfold setR;by_cases h:i<ρ.length
 ·rw[if_pos h,if_pos (by rw[Zr];omega)];rfl
 ·rw[if_neg h,if_neg (by rw[Zr];omega)];rfl
def op_add{a b:Int}:opW .add (.int a) (.int b)=some (.val (.int (a+b))):=rfl
def op_sub{a b:Int}:opW .sub (.int a) (.int b)=some (.val (.int (a-b))):=rfl
def op_mul{a b:Int}:opW .mul (.int a) (.int b)=if Bz a b=true then some (.val (.int (a*b))) else none:=rfl
def op_fdiv{a b:Int}:opW .fdiv (.int a) (.int b)=if zbu b=true then some (.val (.int (a.fdiv b))) else none:=rfl
def op_mod{a b:Int}:opW .mod (.int a) (.int b)=if b=0 then none else some (.val (.int (a.fmod b))):=rfl
def op_pow{a b:Int}:opW .pow (.int a) (.int b)=if zfq a b=true then some (.val (.int (a^b.toNat))) else none:=rfl
end
def sl0:(0<=PySem.sizeLine)=True:=eq_true vA
def sl1:(1<=PySem.sizeLine)=True:=eq_true vA
def sl2:(2<=PySem.sizeLine)=True:=eq_true vA
def sl3:(3<=PySem.sizeLine)=True:=eq_true vA
def sl4:(4<=PySem.sizeLine)=True:=eq_true vA
def sl5:(5<=PySem.sizeLine)=True:=eq_true vA
def sl6:(6<=PySem.sizeLine)=True:=eq_true vA
def sl7:(7<=PySem.sizeLine)=True:=eq_true vA
def sl8:(8<=PySem.sizeLine)=True:=eq_true vA
def sl9:(9<=PySem.sizeLine)=True:=eq_true vA
def at1_0{a:D}:L2.atI [a] 0=some a:=rfl
def at2_0{a b:D}:L2.atI [a,b] 0=some a:=rfl
def at2_1{a b:D}:L2.atI [a,b] 1=some b:=rfl
def at3_0{a b c:D}:L2.atI [a,b,c] 0=some a:=rfl
def at3_1{a b c:D}:L2.atI [a,b,c] 1=some b:=rfl
def at3_2{a b c:D}:L2.atI [a,b,c] 2=some c:=rfl
def at4_0{a b c d:D}:L2.atI [a,b,c,d] 0=some a:=rfl
def at4_1{a b c d:D}:L2.atI [a,b,c,d] 1=some b:=rfl
def at4_2{a b c d:D}:L2.atI [a,b,c,d] 2=some c:=rfl
def at4_3{a b c d:D}:L2.atI [a,b,c,d] 3=some d:=rfl
def at5_0{a b c d e:D}:L2.atI [a,b,c,d,e] 0=some a:=rfl
def at5_1{a b c d e:D}:L2.atI [a,b,c,d,e] 1=some b:=rfl
def at5_2{a b c d e:D}:L2.atI [a,b,c,d,e] 2=some c:=rfl
def at5_3{a b c d e:D}:L2.atI [a,b,c,d,e] 3=some d:=rfl
def at5_4{a b c d e:D}:L2.atI [a,b,c,d,e] 4=some e:=rfl
def at6_0{a b c d e f:D}:L2.atI [a,b,c,d,e,f] 0=some a:=rfl
def at6_1{a b c d e f:D}:L2.atI [a,b,c,d,e,f] 1=some b:=rfl
def at6_2{a b c d e f:D}:L2.atI [a,b,c,d,e,f] 2=some c:=rfl
def at6_3{a b c d e f:D}:L2.atI [a,b,c,d,e,f] 3=some d:=rfl
def at6_4{a b c d e f:D}:L2.atI [a,b,c,d,e,f] 4=some e:=rfl
def at6_5{a b c d e f:D}:L2.atI [a,b,c,d,e,f] 5=some f:=rfl
def zaw{a b:Int}(h:0<b):a.fmod b=a%b:=Kc _ vB
def zls{a b:Int}(h:0<b):a.fdiv b=a/b:=Vz _ vB
def zcd{b:Int}(d:0<b)(e:b<1000000000000000000000000000000000000000000000000000000000000000000000000000000000000000000000000000000000000000000000000000000000000000000000000000000):zbu b=true:=by
 unfold zbu;rw[Zk];refine⟨decide_eq_true vB,decide_eq_true ?_⟩
 have:(1000000000000000000000000000000000000000000000000000000000000000000000000000000000000000000000000000000000000000000000000000000000000000000000000000000:Nat)<=2^9000:=by decide +kernel
 omega
def zag{a b:Int}(d : -1000000000000000000000000000000000000000000000000000000000000000000000000000000000000000000000000000000000000000000000000000000000000000000000000000000<a)(e:a<1000000000000000000000000000000000000000000000000000000000000000000000000000000000000000000000000000000000000000000000000000000000000000000000000000000)(f : -1000000000000000000000000000000000000000000000000000000000000000000000000000000000000000000000000000000000000000000000000000000000000000000000000000000<b)(g:b<1000000000000000000000000000000000000000000000000000000000000000000000000000000000000000000000000000000000000000000000000000000000000000000000000000000):Bz a b=true:=by
 unfold Bz;rw[Zk];have:(1000000000000000000000000000000000000000000000000000000000000000000000000000000000000000000000000000000000000000000000000000000000000000000000000000000:Nat)<=2^16000:=by decide +kernel
 exact⟨decide_eq_true vB,decide_eq_true vB⟩
def op_p4:opW .pow (.int 10) (.int 4)=some (.val (.int 10000)):=by
 have h:zfq 10 4=true:=by decide +kernel
 have e:((10:Int)^Int.toNat 4)=10000:=by decide +kernel
 rw[op_pow,if_pos h,e]
def op_p5:opW .pow (.int 10) (.int 5)=some (.val (.int 100000)):=by
 have h:zfq 10 5=true:=by decide +kernel
 have e:((10:Int)^Int.toNat 5)=100000:=by decide +kernel
 rw[op_pow,if_pos h,e]
def op_p6:opW .pow (.int 10) (.int 6)=some (.val (.int 1000000)):=by
 have h:zfq 10 6=true:=by decide +kernel
 have e:((10:Int)^Int.toNat 6)=1000000:=by decide +kernel
 rw[op_pow,if_pos h,e]
def op_p9:opW .pow (.int 10) (.int 9)=some (.val (.int 1000000000)):=by
 have h:zfq 10 9=true:=by decide +kernel
 have e:((10:Int)^Int.toNat 9)=1000000000:=by decide +kernel
 rw[op_pow,if_pos h,e]
def op_p10:opW .pow (.int 10) (.int 10)=some (.val (.int 10000000000)):=by
 have h:zfq 10 10=true:=by decide +kernel
 have e:((10:Int)^Int.toNat 10)=10000000000:=by decide +kernel
 rw[op_pow,if_pos h,e]
def op_p18:opW .pow (.int 10) (.int 18)=some (.val (.int 1000000000000000000)):=by
 have h:zfq 10 18=true:=by decide +kernel
 have e:((10:Int)^Int.toNat 18)=1000000000000000000:=by decide +kernel
 rw[op_pow,if_pos h,e]
def op_p30:opW .pow (.int 10) (.int 30)=some (.val (.int 1000000000000000000000000000000)):=by
 have h:zfq 10 30=true:=by decide +kernel
 have e:((10:Int)^Int.toNat 30)=1000000000000000000000000000000:=by decide +kernel
 rw[op_pow,if_pos h,e]
def op_p60:opW .pow (.int 10) (.int 60)=some (.val (.int 1000000000000000000000000000000000000000000000000000000000000)):=by
 have h:zfq 10 60=true:=by decide +kernel
 have e:((10:Int)^Int.toNat 60)=1000000000000000000000000000000000000000000000000000000000000:=by decide +kernel
 rw[op_pow,if_pos h,e]
def op_p64:opW .pow (.int 10) (.int 64)=some (.val (.int 10000000000000000000000000000000000000000000000000000000000000000)):=by
 have h:zfq 10 64=true:=by decide +kernel
 have e:((10:Int)^Int.toNat 64)=10000000000000000000000000000000000000000000000000000000000000000:=by decide +kernel
 rw[op_pow,if_pos h,e]
def cs0:((0:Nat):Int)=0:=rfl
def cs1:((1:Nat):Int)=1:=rfl
def cs2:((2:Nat):Int)=2:=rfl
def cs3:((3:Nat):Int)=3:=rfl
def cs4:((4:Nat):Int)=4:=rfl
def cs5:((5:Nat):Int)=5:=rfl
def cs6:((6:Nat):Int)=6:=rfl
def cs7:((7:Nat):Int)=7:=rfl
def cs8:((8:Nat):Int)=8:=rfl
def cs9:((9:Nat):Int)=9:=rfl
def cs10:((10:Nat):Int)=10:=rfl
def cs11:((11:Nat):Int)=11:=rfl
def cs12:((12:Nat):Int)=12:=rfl
def ixD_t{l:List D}{i:Int}:ixD (.tup l) (.int i)=L2.atI l i:=rfl
def ixD_l{l:List D}{i:Int}:ixD (.lst l) (.int i)=L2.atI l i:=rfl
def slD_l{l:List D}{i j:Option Int}:slD (.lst l) i j=some (.new (cutD l i j)):=rfl
def ygc{i:Nat}{d:D}{e:RhoS}:zas (.name i) d e=setR e i (.sh d):=rfl
def ygb{d:List Nat}{e:List D}{f:RhoS}:zas (.tup d) (.tup e) f=zfz d e f:=rfl
def appO(e:RhoS)(i:Nat):Option (Option B)->Option W->Option Out
 |some (some (.ow l)),some (.val d)=>if lf d=true/\l.length<PySem.sizeLine then some (.nx (e.set i (some (.ow (l++[d]))))) else none
 |_,_=>none
def zuc(e:RhoS)(i:Nat):Option (Option B)->Option W->Option D->Option Out
 |some (some (.ow l)),some (.val d),some (.int j)=>if lf d=true then(L2.ixN l.length j).map λn=>.nx (e.set i (some (.ow (l.set n d)))) else none
 |_,_,_=>none
section
variable{Γ:Nat->∅}{ρ:RhoS}
def ex_app{i:Nat}{e:E}:ex Γ (.app i e) ρ=appO ρ i ρ[i]? (ev Γ e (view ρ)):=by
 simp only[ex];cases ev Γ e (view ρ) with
 |none=>
  rw[Uz];unfold appO;cases ρ[i]? with
  |none=>rfl
  |some o=>cases o with
   |none=>rfl
   |some b=>cases b<;>rfl
 |some w=>
  rw[Yg];unfold appO;cases ρ[i]? with
  |none=>rfl
  |some o=>cases o with
   |none=>rfl
   |some b=>cases b<;>cases w<;>rfl
def ymx{i:Nat}{k e:E}:ex Γ (.seti i k e) ρ=zuc ρ i ρ[i]? (ev Γ e (view ρ)) (evd Γ k (view ρ)):=by
 simp only[ex,evd];cases ev Γ e (view ρ) with
 |none=>
  rw[Uz];unfold zuc;cases ρ[i]? with
  |none=>rfl
  |some o=>cases o with
   |none=>rfl
   |some b=>cases b<;>rfl
 |some w=>
  rw[Yg];cases ev Γ k (view ρ) with
  |none=>
   unfold zuc;cases ρ[i]? with
   |none=>rfl
   |some o=>cases o with
    |none=>rfl
    |some b=>cases b<;>cases w<;>rfl
  |some u=>
   simp only[W4,Yg];cases u.d with
   |int j=>
    unfold zuc;cases ρ[i]? with
    |none=>rfl
    |some o=>cases o with
     |none=>rfl
     |some b=>cases b<;>cases w<;>rfl
   |_=>
    unfold zuc;cases ρ[i]? with
    |none=>rfl
    |some o=>cases o with
     |none=>rfl
     |some b=>cases b<;>cases w<;>rfl
def appO_s{i:Nat}{l:List D}{d:D}:appO ρ i (some (some (.ow l))) (some (.val d))=if lf d=true/\l.length<PySem.sizeLine then some (.nx (ρ.set i (some (.ow (l++[d]))))) else none:=rfl
def yju{i:Nat}{l:List D}{d:D}{j:Int}:zuc ρ i (some (some (.ow l))) (some (.val d)) (some (.int j))=if lf d=true then(L2.ixN l.length j).map λn=>.nx (ρ.set i (some (.ow (l.set n d)))) else none:=rfl
end
section
variable{Γ:Nat->∅}{ρ:Rho}
def ev_fm{f:Fm}{l:Es}:ev Γ (.fm f l) ρ=appL (fmW f) (evs Γ l ρ):=by
 simp only[ev];cases(evs Γ l ρ)<;>rfl
def zty(Γ:Nat->∅)(f:E)(t:Tg)(g:Nat)(fr:List Nat)(c:EO)(ρ:Rho)(d:D):Option (Option D):=
 (zbv t d (blkR g fr ρ)).bind λe=>(evc Γ c e).bind λk=>if k=true then((ev Γ f e).map W.d).map some else some none
def zql{e:E}{t:Tg}{g:It'}{f:Nat}{fr:List Nat}{c:EO}:ev Γ (.comp e t g f fr c) ρ=(evW Γ g ρ).bind λd=>if d.length<=PySem.sizeLine/\tgOk f t=true then(zcp (zty Γ e t f fr c ρ) d).map W.new else none:=by
 simp only[ev];rfl
def yng{e:E}:evW Γ (.seq e) ρ=(evd Γ e ρ).bind seqD:=by simp only[evW,evd]
def yfc{i:Nat}:evW Γ (.seqV i) ρ=(varD ρ i).bind seqD:=by simp only[evW]
def evW_range1{a:E}:evW Γ (.range1 a) ρ=((evd Γ a ρ).bind dInt).bind λn=>if -(2^62)<=n/\n<2^62 then some (zao 0 n.toNat) else none:=by simp only[evW,evd]
def ynh{e:E}:evW Γ (.rev e) ρ=((evd Γ e ρ).bind lstD).map List.reverse:=by simp only[evW,evd]
def ynf{a b:E}:evW Γ (.zip a b) ρ=zipO (evd Γ a ρ) (evd Γ b ρ):=by
 simp only[evW,evd,zipO]
def ynd:evc Γ .non ρ=some true:=by simp only[evc]
def ync{e:E}:evc Γ (.som e) ρ=evb Γ e ρ:=by simp only[evc,evb,evd]
theorem zjb{d:Type}{f:D->Option (Option D)}{g:d->D}{h:d->D}:∀{l:List d},(∀x∈l,f (g x)=some (some (h x)))->zcp f (l.map g)=some (l.map h)
 |[],_=>rfl
 |x::l,e=>by
  rw[Zx,Zx];unfold zcp;rw[e x (.head _)];simp only
  rw[zjb λy m=>e y (.tail _ m)];rfl
def zce{d:Type}{elt:E}{t:Tg}{it:It'}{nt:Nat}{fr:List Nat}{c:EO}{l:List d}{g h:d->D}(e:evW Γ it ρ=some (l.map g))(f:l.length<=PySem.sizeLine)(m:tgOk nt t=true)(n:∀x∈l,zty Γ elt t nt fr c ρ (g x)=some (some (h x))):
  ev Γ (.comp elt t it nt fr c) ρ=some (.new (l.map h)):=by
 rw[zql,e,Yg,if_pos ⟨by rw[Zc];exact f,m⟩,zjb n];rfl
end
def yar{i:Nat}{d:D}{e:Rho}:zbv (.name i) d e=setE e i d:=rfl
def yaq{d:List Nat}{e:List D}{f:Rho}:zbv (.tup d) (.tup e) f=zch d e f:=rfl
def setE_0{o:Option D}{d:D}{e:Rho}:setE (o::e) 0 d=some (some d::e):=rfl
def setE_s{o:Option D}{i:Nat}{d:D}{e:Rho}:setE (o::e) (i+1) d=(setE e i d).map (o :: ·):=by
 unfold setE;by_cases h:i<e.length
 ·rw[if_pos h,if_pos (by rw[Zr];omega)];rfl
 ·rw[if_neg h,if_neg (by rw[Zr];omega)];rfl
end DL
namespace DL
section
def Bo{d e:Type}{o g:Option d}{f l:d->Option e}{y:e}(m:∀x,o=some x->g=some x)(n:∀x y,f x=some y->l x=some y)(h:o.bind f=some y):g.bind l=some y:=by
 obtain⟨x,p,q⟩:=Za.mp h
 rw[m x p,Yg];exact n x y q
def By{d e:Type}{o g:Option d}{f:d->e}{y:e}(l:∀x,o=some x->g=some x)(h:o.map f=some y):g.map f=some y:=by
 obtain⟨x,m,n⟩:=Zb.mp h
 rw[l x m,W4,n]
def zki{d:Type}{c:Prop} [Decidable c]{a b e f:Option d}{y:d}(g:a=some y->e=some y)(l:b=some y->f=some y)(h:(if c then a else b)=some y):(if c then e else f)=some y:=by
 by_cases q:c
 ·rw[if_pos q] at h |-;exact g h
 ·rw[if_neg q] at h |-;exact l h
theorem zma{f g:D->Option (Option D)}(h:∀d y,f d=some y->g d=some y):∀{l:List D}{r:List D},zcp f l=some r->zcp g l=some r
 |[],_,q=>q
 |d::l,r,q=>by
  unfold zcp at q |-;cases e:f d with
  |none=>rw[e] at q;cases q
  |some o=>
   rw[e] at q;rw[h d o e];cases o with
   |none=>exact zma h q
   |some x=>exact By (λr=>zma h) q
variable{Γ Γ':Nat->∅}
mutual
theorem zah(h:∀f n w,Γ f n=some w->Γ' f n=some w):∀(e:E) (g:Rho) (w:W),ev Γ e g=some w->ev Γ' e g=some w
 |.var i,g,w,q=>by simp only[ev] at q |-;exact q
 |.int i,g,w,q=>by simp only[ev] at q |-;exact q
 |.bl b,g,w,q=>by simp only[ev] at q |-;exact q
 |.non,g,w,q=>by simp only[ev] at q |-;exact q
 |.bin o a b,g,w,q=>by
  simp only[ev] at q |-;exact Bo (λx=>By (zah h a g)) (λx y=>Bo (λx=>By (zah h b g)) λ_ _ z=>z) q
 |.neg a,g,w,q=>by
  simp only[ev] at q |-;exact By (λx=>Bo (λx=>By (zah h a g)) λ_ _ z=>z) q
 |.cmp c a b,g,w,q=>by
  simp only[ev] at q |-;exact Bo (λx=>By (zah h a g)) (λx y=>Bo (λx=>By (zah h b g)) λ_ _ z=>z) q
 |.and a b,g,w,q=>by
  simp only[ev] at q |-;exact Bo (λx=>Bo (λx=>By (zah h a g)) λ_ _ z=>z) (λx y=>zki (zah h b g y) λz=>z) q
 |.or a b,g,w,q=>by
  simp only[ev] at q |-;exact Bo (λx=>Bo (λx=>By (zah h a g)) λ_ _ z=>z) (λx y=>zki (λz=>z) (zah h b g y)) q
 |.not a,g,w,q=>by
  simp only[ev] at q |-;exact By (λx=>Bo (λx=>By (zah h a g)) λ_ _ z=>z) q
 |.ife c a b,g,w,q=>by
  simp only[ev] at q |-;exact Bo (λx=>Bo (λx=>By (zah h c g)) λ_ _ z=>z) (λx y=>zki (zah h a g y) (zah h b g y)) q
 |.tup l,g,w,q=>by
  simp only[ev] at q |-;exact Bo (evs_le h l g) (λ_ _ z=>z) q
 |.lst l,g,w,q=>by
  simp only[ev] at q |-;exact Bo (evs_le h l g) (λ_ _ z=>z) q
 |.ix a b,g,w,q=>by
  simp only[ev] at q |-;exact Bo (λx=>By (zah h a g)) (λx y=>Bo (λx=>By (zah h b g)) λ_ _ z=>z) q
 |.sl a lo u,g,w,q=>by
  simp only[ev] at q |-;exact Bo (λx=>By (zah h a g)) (λx y=>Bo (evo_le h lo g) λ_ _=>Bo (evo_le h u g) λ_ _ z=>z) q
 |.call f l,g,w,q=>by
  simp only[ev] at q |-;exact Bo (evs_le h l g) (λn y=>h f n y) q
 |.bi f l,g,w,q=>by
  simp only[ev] at q |-;exact Bo (evs_le h l g) (λ_ _ z=>z) q
 |.isi a t,g,w,q=>by
  simp only[ev] at q |-;exact Bo (λx=>By (zah h a g)) (λ_ _ z=>z) q
 |.isx a A,g,w,q=>by
  simp only[ev] at q |-;exact Bo (λx=>By (zah h a g)) (λ_ _ z=>z) q
 |.idx a b,g,w,q=>by
  simp only[ev] at q |-;exact Bo (λx=>By (zah h a g)) (λx y=>Bo (λx=>By (zah h b g)) λ_ _ z=>z) q
 |.fld a j,g,w,q=>by
  simp only[ev] at q |-;exact By (λx=>Bo (λx=>By (zah h a g)) λ_ _ z=>z) q
 |.fm f l,g,w,q=>by
  simp only[ev] at q |-;exact Bo (evs_le h l g) (λ_ _ z=>z) q
 |.lcp a,g,w,q=>by
  simp only[ev] at q |-;exact Bo (λx=>By (zah h a g)) (λ_ _ z=>z) q
 |.comp p t v B fr c,g,w,q=>by
  simp only[ev] at q |-;refine Bo (evW_le h v g) (λs y=>zki (By λr=>zma λd y=>?_) λz=>z) q;exact Bo (λ_ z=>z) (λm y=>Bo (evc_le h c m) λk y=>zki (By λx=>By (zah h p m)) λz=>z)
theorem evs_le(h:∀f g w,Γ f g=some w->Γ' f g=some w):∀(l:Es) (d:Rho) (w:List D),evs Γ l d=some w->evs Γ' l d=some w
 |.nil,d,w,q=>by simp only[evs] at q |-;exact q
 |.cons e l,d,w,q=>by
  simp only[evs] at q |-;exact Bo (λx=>By (zah h e d)) (λx y=>By (evs_le h l d)) q
theorem evo_le(h:∀f g w,Γ f g=some w->Γ' f g=some w):∀(l:EO) (d:Rho) (w:Option Int),evo Γ l d=some w->evo Γ' l d=some w
 |.non,d,w,q=>by simp only[evo] at q |-;exact q
 |.som e,d,w,q=>by
  simp only[evo] at q |-;exact By (λx=>Bo (λx=>By (zah h e d)) λ_ _ z=>z) q
theorem evc_le(h:∀f g w,Γ f g=some w->Γ' f g=some w):∀(l:EO) (d:Rho) (w:Bool),evc Γ l d=some w->evc Γ' l d=some w
 |.non,d,w,q=>by simp only[evc] at q |-;exact q
 |.som e,d,w,q=>by
  simp only[evc] at q |-;exact Bo (λx=>By (zah h e d)) (λ_ _ z=>z) q
theorem evW_le(h:∀f g w,Γ f g=some w->Γ' f g=some w):∀(l:It') (d:Rho) (w:List D),evW Γ l d=some w->evW Γ' l d=some w
 |.seq e,d,w,q=>by
  simp only[evW] at q |-;exact Bo (λx=>By (zah h e d)) (λ_ _ z=>z) q
 |.seqV i,d,w,q=>by simp only[evW] at q |-;exact q
 |.range1 a,d,w,q=>by
  simp only[evW] at q |-;exact Bo (λx=>Bo (λx=>By (zah h a d)) λ_ _ z=>z) (λ_ _ z=>z) q
 |.range2 a b,d,w,q=>by
  simp only[evW] at q |-;exact Bo (λx=>Bo (λx=>By (zah h a d)) λ_ _ z=>z) (λ_ _=>Bo (λx=>Bo (λx=>By (zah h b d)) λ_ _ z=>z) λ_ _ z=>z) q
 |.enum e,d,w,q=>by
  simp only[evW] at q |-;exact By (λx=>Bo (λx=>By (zah h e d)) λ_ _ z=>z) q
 |.rev e,d,w,q=>by
  simp only[evW] at q |-;exact By (λx=>Bo (λx=>By (zah h e d)) λ_ _ z=>z) q
 |.zip a b,d,w,q=>by
  simp only[evW] at q |-;exact Bo (λx=>Bo (λx=>By (zah h a d)) λ_ _ z=>z) (λ_ _=>Bo (λx=>Bo (λx=>By (zah h b d)) λ_ _ z=>z) λ_ _ z=>z) q
end
theorem evI_le(h:∀f g w,Γ f g=some w->Γ' f g=some w):∀(l:It') (d:RhoS) (w:List D×RhoS),evI Γ l d=some w->evI Γ' l d=some w
 |.seq e,d,w,q=>by
  simp only[evI] at q |-;exact Bo (zah h e (view d)) (λ_ _ z=>z) q
 |.seqV i,d,w,q=>by simp only[evI] at q |-;exact q
 |.range1 a,d,w,q=>by
  simp only[evI] at q |-;exact Bo (λx=>Bo (λx=>By (zah h a (view d))) λ_ _ z=>z) (λ_ _ z=>z) q
 |.range2 a b,d,w,q=>by
  simp only[evI] at q |-;exact Bo (λx=>Bo (λx=>By (zah h a (view d))) λ_ _ z=>z) (λ_ _=>Bo (λx=>Bo (λx=>By (zah h b (view d))) λ_ _ z=>z) λ_ _ z=>z) q
 |.enum e,d,w,q=>by
  simp only[evI] at q |-;exact Bo (zah h e (view d)) (λ_ _ z=>z) q
 |.rev e,d,w,q=>by simp only[evI] at q;cases q
 |.zip a b,d,w,q=>by
  simp only[evI] at q |-;exact Bo (λx=>Bo (λx=>By (zah h a (view d))) λ_ _ z=>z) (λ_ _=>Bo (λx=>Bo (λx=>By (zah h b (view d))) λ_ _ z=>z) λ_ _ z=>z) q
theorem zmo{c h:RhoS->Option Bool}{b l:RhoS->Option Out}(m:∀d k,c d=some k->h d=some k)(p:∀d o,b d=some o->l d=some o):∀(n:Nat) (d:RhoS) (o:Out),zar c b n d=some o->zar h l n d=some o
 |0,_,_,q=>by cases q
 |n+1,d,o,q=>by
  unfold zar at q |-;cases e:c d with
  |none=>rw[e] at q;cases q
  |some k=>
   simp only[e] at q;simp only[m d k e];cases k with
   |false=>exact q
   |true=>
    cases f:b d with
    |none=>simp only[f] at q;cases q
    |some o2=>
     simp only[f] at q;simp only[p d o2 f];cases o2 with
     |rt w=>exact q
     |nx g=>exact zmo m p n g o q
theorem zzm{h:D->RhoS->Option RhoS}{b p:RhoS->Option Out}(r:∀f o,b f=some o->p f=some o):∀(l:List D) (f:RhoS) (o:Out),forN h b l f=some o->forN h p l f=some o
 |[],_,_,q=>q
 |d::l,f,o,q=>by
  unfold forN at q |-;cases e:h d f with
  |none=>rw[e] at q;cases q
  |some g=>
   simp only[e] at q;simp only
   cases m:b g with
   |none=>simp only[m] at q;cases q
   |some o2=>
    simp only[m] at q;simp only[r g o2 m];cases o2 with
    |rt w=>exact q
    |nx n=>exact zzm r l n o q
mutual
def zye:S->Bool
 |.tryC _ _ _ _ _=>false
 |.iff _ a b=>noTrys a && noTrys b
 |.whl _ b=>noTrys b
 |.frr _ _ b=>noTrys b
 |_=>true
def noTrys:Ss->Bool
 |.nil=>true
 |.cons s l=>zye s && noTrys l
end
mutual
theorem ex_le(h:∀f r w,Γ f r=some w->Γ' f r=some w):∀(s:S) (d:RhoS) (o:Out),zye s=true->ex Γ s d=some o->ex Γ' s d=some o
 |.asg i e,d,o,_,q=>by
  simp only[ex] at q |-;exact Bo (zah h e _) (λ_ _ z=>z) q
 |.unp A e,d,o,_,q=>by
  simp only[ex] at q |-;exact Bo (zah h e _) (λ_ _ z=>z) q
 |.par i j a b,d,o,_,q=>by
  simp only[ex] at q |-;exact Bo (λx=>By (zah h a _)) (λ_ _=>Bo (λx=>By (zah h b _)) λ_ _ z=>z) q
 |.ret e,d,o,_,q=>by
  simp only[ex] at q |-;exact By (zah h e _) q
 |.retV i,d,o,_,q=>by simp only[ex] at q |-;exact q
 |.iff c a b,d,o,n,q=>by
  simp only[zye,Zk] at n;simp only[ex,evB] at q |-;exact Bo (λx=>Bo (λx=>By (zah h c _)) λ_ _ z=>z) (λ_ y=>zki (exs_le h a d y n.1) (exs_le h b d y n.2)) q
 |.whl c b,d,o,n,q=>by
  simp only[zye] at n;simp only[ex] at q |-;obtain⟨m,u⟩:=zjz q
  refine zeq (zmo (λd k z=>?_) (λd o z=>exs_le h b d o n z) m d o u);unfold evB at z |-;exact Bo (λx=>By (zah h c _)) (λ_ _ z=>z) z
 |.frr t v b,d,o,n,q=>by
  simp only[zye] at n;simp only[ex] at q |-;exact Bo (evI_le h v d) (λp y=>zzm (λd o z=>exs_le h b d o n z) _ _ _) q
 |.tryC f g l i j,d,o,n,q=>by cases n
 |.app i e,d,o,_,q=>by
  simp only[ex] at q |-;exact Bo (zah h e _) (λ_ _ z=>z) q
 |.pop i,d,o,_,q=>by simp only[ex] at q |-;exact q
 |.clr i,d,o,_,q=>by simp only[ex] at q |-;exact q
 |.seti i k e,d,o,_,q=>by
  simp only[ex] at q |-;exact Bo (zah h e _) (λ_ _=>Bo (λx=>Bo (λx=>By (zah h k _)) λ_ _ z=>z) λ_ _ z=>z) q
 |.never,d,o,_,q=>by simp only[ex] at q;cases q
theorem exs_le(h:∀f g w,Γ f g=some w->Γ' f g=some w):∀(l:Ss) (d:RhoS) (o:Out),noTrys l=true->exs Γ l d=some o->exs Γ' l d=some o
 |.nil,d,o,_,q=>by simp only[exs] at q |-;exact q
 |.cons s l,d,o,n,q=>by
  simp only[noTrys,Zk] at n;simp only[exs] at q |-;refine Bo (λo z=>ex_le h s d o n.1 z) (λo2 y z=>?_) q;cases o2 with
  |nx e=>exact exs_le h l e y n.2 z
  |rt w=>exact z
end
def tab:List (Nat×(∅))->Nat->∅
 |[],_=>λ_=>none
 |(k,m)::t,n=>if n=k then m else tab t n
theorem ygw:∀(T:List (Nat×(∅))),(∀p∈T,Γ p.1=p.2)->∀f d w,tab T f d=some w->Γ f d=some w
 |[],_,_,_,_,q=>by simp only[tab] at q;cases q
 |(k,m)::t,h,f,d,w,q=>by
  unfold tab at q;by_cases e:f=k
  ·rw[if_pos e] at q;subst e;rw[h (f,m) (.head _)];exact q
  ·rw[if_neg e] at q;exact ygw t (λp g=>h p (.tail _ g)) f d w q
def zcb{b:Ss}{n:Nat}(T:List (Nat×(∅)))(e:∀p∈T,Γ p.1=p.2)(f:noTrys b=true)(d:List D)(w:W)(h:run (tab T) b n d=some w):run Γ b n d=some w:=by
 unfold run at h |-;exact Bo (λo=>exs_le (ygw T e) b _ o f) (λ_ _ z=>z) h
def tab_0{k:Nat}{m:∅}{t:List (Nat×(∅))}:tab ((k,m)::t) k=m:=if_pos rfl
def tab_s{k n:Nat}{m:∅}{t:List (Nat×(∅))}(h:n≠k):tab ((k,m)::t) n=tab t n:=if_neg h
end
def cm_lt{a b:Int}:cmpD .lt (.int a) (.int b)=some (decide (a<b)):=rfl
def cm_le{a b:Int}:cmpD .le (.int a) (.int b)=some (decide (a<=b)):=rfl
def cm_gt{a b:Int}:cmpD .gt (.int a) (.int b)=some (decide (b<a)):=rfl
def cm_ge{a b:Int}:cmpD .ge (.int a) (.int b)=some (decide (b<=a)):=rfl
def cm_eq{a b:Int}:cmpD .eq (.int a) (.int b)=some (decide (a=b)):=rfl
def cm_ne{a b:Int}:cmpD .ne (.int a) (.int b)=some (!decide (a=b)):=rfl
def cm_eqB{a b:Bool}:cmpD .eq (.bl a) (.bl b)=some (a == b):=rfl
def cm_neB{a b:Bool}:cmpD .ne (.bl a) (.bl b)=some (!(a == b)):=rfl
def cm_eqT{a b:List D}:cmpD .eq (.tup a) (.tup b)=if (dOkL 49 a && dOkL 49 b)=true then some (eqL a b) else none:=rfl
def cm_neT{a b:List D}:cmpD .ne (.tup a) (.tup b)=if (dOkL 49 a && dOkL 49 b)=true then some (!eqL a b) else none:=by
 show Option.map not (if _ then _ else _)=_;split<;>rfl
def cm_eqL{a b:List D}:cmpD .eq (.lst a) (.lst b)=if (dOkL 49 a && dOkL 49 b)=true then some (eqL a b) else none:=rfl
def cm_neL{a b:List D}:cmpD .ne (.lst a) (.lst b)=if (dOkL 49 a && dOkL 49 b)=true then some (!eqL a b) else none:=by
 show Option.map not (if _ then _ else _)=_;split<;>rfl
def cm_in{x:D}{l:List D}:cmpD .isin x (.lst l)=if (dOk 50 x && dOkL 49 l)=true then some (l.any λy=>eqD y x) else none:=rfl
def yie{x:D}{l:List D}:cmpD .notin x (.lst l)=if (dOk 50 x && dOkL 49 l)=true then some (!(l.any λy=>eqD y x)) else none:=by
 show Option.map not (if _ then _ else _)=_;split<;>rfl
def cm_isN{a:D}:cmpD .isN a .non=some (zoa a):=rfl
def yog{a:D}:cmpD .notN a .non=some (!zoa a):=rfl
end DL
namespace Sf
abbrev gc(a b:Int):Int:=((Int.gcd a b:Nat):Int)
def gc_nn(a b:Int):0<=gc a b:=Yv _
def zgl{a b:Int}(h:b≠0):0<gc a b:=Vt.mpr (Int.gcd_pos_of_ne_zero_right a h)
def zqf{g s:Int}:gc s (g%s)=gc g s:=by
 have e:g=g%s+s*(g/s):=by have:=Int.emod_add_mul_ediv g s;omega
 show((Int.gcd s (g%s):Nat):Int)=((Int.gcd g s:Nat):Int);have h:Int.gcd s g=Int.gcd s (g%s):=by
  conv=>lhs;rw[e]
  rw[Int.gcd_add_mul_left_right]
 rw[Gk g s,h]
def zlo{g:Int}(h:0<=g):gc g 0=g:=by
 show((Int.gcd g 0:Nat):Int)=g;rw[Int.gcd_zero];omega
def yhs(a b:Int):gc (if a<0 then -a else a) (if b<0 then -b else b)=gc a b:=by
 show((Int.gcd _ _:Nat):Int)=_;split<;>split<;>simp only[Int.neg_gcd,Int.gcd_neg]
def zuw{p q:Int}(h:∀c,c∣p->c∣q->c∣1):Int.gcd p q=1:=Qf.mpr h
def zfe{k m n:Int}(h:Int.gcd k m=1)(d:k∣m*n):k∣n:=by
 have e:=Kf (n:=k) (m:=m) (k:=n) h;have f:Int.gcd k (m*n)=k.natAbs:=Int.gcd_eq_natAbs_left d;rw[f] at e;exact Int.gcd_eq_natAbs_left_iff_dvd.mp e.symm
def zam{a b:Int}(h:a∣b)(d:b≠0):a.natAbs<=b.natAbs:=
 Nat.le_of_dvd vB (Gj.mpr h)
def zlp{a b:Int}(h:0<gc a b):∃x y:Int,a=gc a b*x/\b=gc a b*y/\Int.gcd x y=1:=by
 obtain⟨x,d⟩:=Qx a b
 obtain⟨y,f⟩:=Wi a b
 refine⟨x,y,d,f,?_⟩
 have g:Int.gcd a b=(gc a b).natAbs*Int.gcd x y:=by
  have e:=Int.gcd_mul_left (gc a b) x y;have l:gc a b*x=a:=d.symm;have m:gc a b*y=b:=f.symm;rw[l,m] at e;exact e
 have n:(gc a b).natAbs=Int.gcd a b:=Yp _;rw[n] at g;have o:0<Int.gcd a b:=Vt.mp h;exact(Nat.eq_of_mul_eq_mul_left o (by rw[Nat.mul_one];exact g)).symm
structure Fra(p q:Int):Prop where
 pos:0<q
 co:Int.gcd p q=1
def Fra.cross_dvd{p q N B:Int}(f:Fra p q)(h:p*B=N*q):p∣N/\q∣B:=by
 constructor
 ·refine zfe f.co ⟨B,?_⟩;rw[h,Qu]
 ·refine zfe (k:=q) (m:=p) (by rw[Gk];exact f.co) ⟨N,?_⟩;rw[h,Qu]
def Fra.cross_le{p q N B:Int}(f:Fra p q)(d:B≠0)(h:p*B=N*q):p.natAbs<=N.natAbs/\q.natAbs<=B.natAbs:=by
 obtain⟨l,m⟩:=f.cross_dvd h
 refine⟨?_,zam m d⟩
 by_cases g:N=0
 ·subst g;rw[Int.zero_mul] at h;rcases Vu.mp h with e|e
  ·rw[e];exact Zl _
  ·exact absurd e d
 ·exact zam l g
def Fra.uniq{p q r s:Int}(f:Fra p q)(g:Fra r s)(h:p*s=r*q):p=r/\q=s:=by
 have d:=(f.cross_dvd h).2;have l:=(g.cross_dvd h.symm).2;have e:q=s:=Int.dvd_antisymm (Qe f.pos) (Qe g.pos) d l;subst e;exact⟨Jd (by have:=f.pos;omega) h,rfl⟩
def by_(t b:Int):Int:=if b<0 then -(gc t b) else gc t b
def low1(t b:Int):Int:=t.fdiv (by_ t b)
def low2(t b:Int):Int:=b.fdiv (by_ t b)
def by_ne{t b:Int}(h:b≠0):by_ t b≠0:=by
 have:=zgl (a:=t) h
 unfold by_;split<;>omega
def znu{t b:Int}(h:b≠0):t=by_ t b*low1 t b/\b=by_ t b*low2 t b/\Fra (low1 t b) (low2 t b):=by
 have l:=zgl (a:=t) h;obtain⟨x,y,u,m,o⟩:=zlp l
 have p:=by_ne (t:=t) h;have key:∃z:Int,(z=1\/z = -1)/\by_ t b=gc t b*z/\0<y*z:=by
  by_cases g:b<0
  ·refine⟨-1,.inr rfl,?_,?_⟩
   ·unfold by_;rw[if_pos g];omega
   ·have:y<0:=by
     rw[m] at g;by_cases d:y<0
     ·exact d
     ·exact absurd g (Ky.mpr (Y4 (Qe l) (Ky.mp d)))
    omega
  ·refine⟨1,.inl rfl,?_,?_⟩
   ·unfold by_;rw[if_neg g];omega
   ·have:0<y:=by
     by_cases d:0<y
     ·exact d
     ·have:=Qa (Qe l) (Ky.mp d)
      rw[<-m] at this;omega
    omega
 obtain⟨z,q,f,n⟩:=key
 have A:z*z=1:=by rcases q with e|e<;>subst e<;>decide
 have r:t=by_ t b*(x*z):=by
  rw[f];conv=>lhs;rw[u]
  grind
 have s:b=by_ t b*(y*z):=by
  rw[f];conv=>lhs;rw[m]
  grind
 have l1:low1 t b=x*z:=by
  unfold low1;conv=>lhs;arg 1;rw[r]
  exact Z3 _ p
 have l2:low2 t b=y*z:=by
  unfold low2;conv=>lhs;arg 1;rw[s]
  exact Z3 _ p
 rw[l1,l2];refine⟨r,s,n,?_⟩
 rcases q with e|e<;>subst e
 ·rw[Up,Up];exact o
 ·have v:x * -1 = -x:=by omega
  have w:y * -1 = -y:=by omega
  rw[v,w,Int.neg_gcd,Int.gcd_neg];exact o
def zyq{t b:Int}(h:b≠0):Fra (low1 t b) (low2 t b):=(znu h).2.2
def zyr{t b:Int}(h:b≠0):low1 t b*b=t*low2 t b:=by
 obtain⟨d,e,_⟩:=znu (t:=t) h
 generalize by_ t b=g at d e;generalize low1 t b=x at d e |-;generalize low2 t b=y at d e |-;subst d;subst e;grind
def addT(a b c d:Int):Int:=a*(d.fdiv (gc b d))+c*(b.fdiv (gc b d))
def add1(a b c d:Int):Int:=(addT a b c d).fdiv (gc (addT a b c d) (gc b d))
def add2(a b c d:Int):Int:=b.fdiv (gc b d)*d.fdiv (gc (addT a b c d) (gc b d))
def add_ok{a b c d:Int}(f:Fra a b)(g:Fra c d):Fra (add1 a b c d) (add2 a b c d)/\add1 a b c d*(b*d)=(a*d+c*b)*add2 a b c d:=by
 have X:=f.pos;have Y:=g.pos;have v:0<gc b d:=zgl vB;obtain⟨h,e,w,ed,I⟩:=zlp v
 have J:0<gc (addT a b c d) (gc b d):=zgl vB;obtain⟨p,m,u,K,z⟩:=zlp J
 have q:gc b d≠0:=by omega
 have t:gc (addT a b c d) (gc b d)≠0:=by omega
 have L:b.fdiv (gc b d)=h:=by
  conv=>lhs;arg 1;rw[w]
  exact Z3 _ q
 have N:d.fdiv (gc b d)=e:=by
  conv=>lhs;arg 1;rw[ed]
  exact Z3 _ q
 have O:addT a b c d=a*e+c*h:=by unfold addT;rw[L,N]
 have P:add1 a b c d=p:=by
  unfold add1;conv=>lhs;arg 1;rw[u]
  exact Z3 _ t
 have A:d=gc (addT a b c d) (gc b d)*(m*e):=by
  conv=>lhs;rw[ed]
  rw[<-Uv];conv=>lhs;arg 1;rw[K]
 have Q:d.fdiv (gc (addT a b c d) (gc b d))=m*e:=by
  conv=>lhs;arg 1;rw[A]
  exact Z3 _ t
 have R:add2 a b c d=h*(m*e):=by unfold add2;rw[L,Q]
 rw[P,R];generalize gc (addT a b c d) (gc b d)=r at *;generalize gc b d=s at *;rw[O] at u;have S:0<h:=by
  by_cases n:0<h
  ·exact n
  ·have:=Qa (Qe v) (Ky.mp n);omega
 have T:0<e:=by
  by_cases n:0<e
  ·exact n
  ·have:=Qa (Qe v) (Ky.mp n);omega
 have U:0<m:=by
  by_cases n:0<m
  ·exact n
  ·have:=Qa (Qe J) (Ky.mp n);omega
 have V:Int.gcd a h=1:=zuw λk o l=>Qf.mp f.co k o (by rw[w];exact Kq l)
 have W:Int.gcd c e=1:=zuw λk o l=>Qf.mp g.co k o (by rw[ed];exact Kq l)
 have M:p∣a*e+c*h:=⟨r,by rw[u,Qu]⟩;have B:Int.gcd p h=1:=zuw λk o l=>by
  have C:k∣a*e:=(Int.dvd_add_left (Kq l)).mp (Wr o M);have D:Int.gcd k e=1:=zuw λj E F=>Qf.mp I j (Wr E l) F
  have G:k∣a:=zfe D (by rw[Qu];exact C);exact Qf.mp V k G l
 have H:Int.gcd p e=1:=zuw λk o l=>by
  have C:k∣c*h:=(Int.dvd_add_right (Kq l)).mp (Wr o M);have D:Int.gcd k h=1:=zuw λj E F=>Qf.mp I j F (Wr E l)
  have G:k∣c:=zfe D (by rw[Qu];exact C);exact Qf.mp W k G l
 refine⟨⟨Wy S (Wy U T),?_⟩,?_⟩
 ·rw[Kf B,Kf z];exact H
 ·subst w;subst ed;subst K;have:a*(r*m*e)+c*(r*m*h)=r*m*(r*p):=by rw[<-u];grind
  rw[this];grind
end Sf
namespace Sf
def zcv(x:Rat):Fra x.num (x.den:Int):=⟨by have:=x.den_nz;omega,by
 have:=x.reduced
 show Nat.gcd x.num.natAbs ((x.den:Int)).natAbs=1;exact this⟩
def rat_of{p q:Int}(f:Fra p q):(Rat.divInt p q).num=p/\((Rat.divInt p q).den:Int)=q:=by
 have d:=f.pos;refine(zcv (Rat.divInt p q)).uniq f ?_;have e:Rat.divInt (Rat.divInt p q).num ((Rat.divInt p q).den:Int)=Rat.divInt p q:=Yo _;exact(V7 (by have:=(Rat.divInt p q).den_nz;omega) vB).mp e
def zrt{x:Rat}{p q:Int}(d:q≠0):x=Rat.divInt p q↔x.num*q=p*(x.den:Int):=by
 conv=>lhs;lhs;rw[<-Yo x]
 exact V7 (by have:=x.den_nz;omega) d
def ymi{t b:Int}(h:b≠0):(Rat.divInt t b).num=low1 t b/\((Rat.divInt t b).den:Int)=low2 t b:=
 (zcv _).uniq (zyq h) (by
  have e:=(zrt (x:=Rat.divInt t b) h).mp rfl;have c:=zyr (t:=t) h;have f:=(zyq (t:=t) h).pos;apply Jd h
  grind)
def ype(x y:Rat):(x+y).num=add1 x.num x.den y.num y.den/\((x+y).den:Int)=add2 x.num x.den y.num y.den:=by
 obtain⟨f,c⟩:=add_ok (zcv x) (zcv y)
 refine(zcv _).uniq f ?_;have d:(x.den:Int)≠0:=by have:=x.den_nz;omega
 have g:(y.den:Int)≠0:=by have:=y.den_nz;omega
 have e:x+y=Rat.divInt (x.num*y.den+y.num*x.den) (x.den*y.den):=by
  conv=>lhs;rw[<-Yo x,<-Yo y]
  exact Q7 _ _ d g
 have h:=(zrt (x:=x+y) (Yc d g)).mp e;apply Jd (Yc d g)
 grind
def zpx(x y:Rat):x*y=Rat.divInt (x.num*y.num) (x.den*y.den):=by
 conv=>lhs;rw[<-Yo x,<-Yo y]
 exact Q6 _ _
def zzr{x y:Rat}(h:y≠0):x/y=Rat.divInt (x.num*y.den) (x.den*y.num):=by
 conv=>lhs;rw[<-Yo x,<-Yo y]
 rw[Kn,Rat.inv_divInt,Q6]
structure Sz(n:Nat)(x:Rat):Prop where
 t:x.num.natAbs<2^n
 b:x.den<2^n
def Bx{m n:Nat}(h:m<=n):2^m<=2^n:=Nat.pow_le_pow_right vA h
def Sz.mono{m n:Nat}{x:Rat}(h:Sz m x)(k:m<=n):Sz n x:=⟨Zf h.t (Bx k),Zf h.b (Bx k)⟩
def zay{a b m n:Nat}(h:a<2^m)(k:b<2^n):a*b<2^(m+n):=by
 rw[Nat.pow_add];exact Nat.mul_lt_mul'' h k
def zeh{x:Rat}{p q:Int}{n:Nat}(d:q≠0)(e:x=Rat.divInt p q)(f:p.natAbs<2^n)(g:q.natAbs<2^n):Sz n x:=by
 obtain⟨a,b⟩:=(zcv x).cross_le d ((zrt d).mp e)
 exact⟨Yk a f,by have:=b;omega⟩
def Sz.mul{m n:Nat}{x y:Rat}(d:Sz m x)(e:Sz n y):Sz (m+n) (x*y):=by
 have a:(x.den:Int)≠0:=by have:=x.den_nz;omega
 have b:(y.den:Int)≠0:=by have:=y.den_nz;omega
 refine zeh (Yc a b) (zpx x y) ?_ ?_
 ·rw[Yb];exact zay d.t e.t
 ·rw[Yb];exact zay d.b e.b
def Sz.add{m n:Nat}{x y:Rat}(d:Sz m x)(f:Sz n y):Sz (m+n+1) (x+y):=by
 have a:(x.den:Int)≠0:=by have:=x.den_nz;omega
 have b:(y.den:Int)≠0:=by have:=y.den_nz;omega
 have e:x+y=Rat.divInt (x.num*y.den+y.num*x.den) (x.den*y.den):=by
  conv=>lhs;rw[<-Yo x,<-Yo y]
  exact Q7 _ _ a b
 have l:=zay d.t f.b;have g:=zay f.t d.b;rw[Gg n m] at g;have t3:=zay d.b f.b;have o:2^(m+n+1)=2^(m+n)+2^(m+n):=by rw[Ua];omega
 refine zeh (Yc a b) e ?_ ?_
 ·have h:=U2 (x.num*y.den) (y.num*x.den);rw[Yb,Yb,Yp,Yp] at h;omega
 ·rw[Yb,Yp,Yp];omega
def Sz.neg{n:Nat}{x:Rat}(d:Sz n x):Sz n (-x):=⟨by show(-x.num).natAbs<_;rw[Jn];exact d.t,d.b⟩
def Sz.sub{m n:Nat}{x y:Rat}(d:Sz m x)(e:Sz n y):Sz (m+n+1) (x-y):=by
 rw[Je];exact d.add e.neg
def Sz.div{m n:Nat}{x y:Rat}(d:Sz m x)(e:Sz n y)(h:y≠0):Sz (m+n) (x/y):=by
 have a:(x.den:Int)≠0:=by have:=x.den_nz;omega
 have b:y.num≠0:=λz=>h (Rat.num_eq_zero.mp z)
 refine zeh (Yc a b) (zzr h) ?_ ?_
 ·rw[Yb];exact zay d.t e.b
 ·rw[Yb];exact zay d.b e.t
end Sf
namespace DL
def zjl:Ss:=#v[.asg 2 (.bi .abs #v[.var 0]),.asg 3 (.bi .abs #v[.var 1]),.whl (.cmp .ne (.var 3) (.int 0)) #v[.asg 4 (.bin .mod (.var 2) (.var 3)),.asg 2 (.var 3),.asg 3 (.var 4)],.retV 2]
def zqx:Ss:=#v[.iff (.cmp .eq (.var 1) (.int 0)) #v[.never] .nil,.asg 2 (.call 0 #v[.var 0,.var 1]),.iff (.cmp .lt (.var 1) (.int 0)) #v[.asg 2 (.neg (.var 2))] .nil,.ret (.tup #v[.bin .fdiv (.var 0) (.var 2),.bin .fdiv (.var 1) (.var 2)])]
def ybc:Ss:=#v[.asg 2 (.call 0 #v[.ix (.var 0) (.int 1),.ix (.var 1) (.int 1)]),.asg 3 (.bin .add (.bin .mul (.ix (.var 0) (.int 0)) (.bin .fdiv (.ix (.var 1) (.int 1)) (.var 2))) (.bin .mul (.ix (.var 1) (.int 0)) (.bin .fdiv (.ix (.var 0) (.int 1)) (.var 2)))),.asg 4 (.call 0 #v[.var 3,.var 2]),.ret (.tup #v[.bin .fdiv (.var 3) (.var 4),.bin .mul (.bin .fdiv (.ix (.var 0) (.int 1)) (.var 2)) (.bin .fdiv (.ix (.var 1) (.int 1)) (.var 4))])]
def zqy:Ss:=#v[.ret (.call 9 #v[.var 0,.tup #v[.neg (.ix (.var 1) (.int 0)),.ix (.var 1) (.int 1)]])]
def zqw:Ss:=#v[.ret (.call 1 #v[.bin .mul (.ix (.var 0) (.int 0)) (.ix (.var 1) (.int 0)),.bin .mul (.ix (.var 0) (.int 1)) (.ix (.var 1) (.int 1))])]
def zcz:Ss:=#v[.asg 0 (.bi .abs #v[.var 0]),.asg 1 (.bi .abs #v[.var 1]),.whl (.cmp .gt (.var 1) (.int 0)) #v[.par 0 1 (.var 1) (.bin .mod (.var 0) (.var 1))],.retV 0]
def ybd:Ss:=#v[.ret (.call 1 #v[.bin .mul (.ix (.var 0) (.int 0)) (.ix (.var 1) (.int 1)),.bin .mul (.ix (.var 0) (.int 1)) (.ix (.var 1) (.int 0))])]
def zgb:Ss:=#v[.ret (.cmp .lt (.bin .mul (.ix (.var 0) (.int 0)) (.ix (.var 1) (.int 1))) (.bin .mul (.ix (.var 1) (.int 0)) (.ix (.var 0) (.int 1))))]
def zcq:Ss:=#v[.ret (.comp (.call 42 #v[.var 1,.var 2]) (.tup [1,2]) (.seq (.call 41 #v[.var 0])) 3 [] .non)]
def zmi:Ss:=#v[.ret (.fm .zip #v[.var 0,.bin .add (.sl (.var 0) (.som (.int 1)) .non) (.sl (.var 0) .non (.som (.int 1)))])]
def zbp:Ss:=#v[.asg 2 (.call 10 #v[.ix (.var 0) (.int 1),.ix (.var 1) (.int 1)]),.asg 3 (.call 10 #v[.ix (.var 1) (.int 0),.ix (.var 0) (.int 0)]),.asg 4 (.call 9 #v[.call 11 #v[.var 2,.ix (.var 0) (.int 0)],.call 11 #v[.var 3,.ix (.var 0) (.int 1)]]),.ret (.call 43 #v[.tup #v[.var 2,.var 3,.var 4]])]
def zbc:Ss:=#v[.asg 1 (.int 1),.frr (.name 2) (.seqV 0) #v[.asg 1 (.bin .mul (.var 1) (.ix (.var 2) (.int 1)))],.asg 3 (.comp (.bin .mul (.ix (.var 1) (.int 0)) (.bin .fdiv (.var 2) (.ix (.var 1) (.int 1)))) (.name 1) (.seqV 0) 2 [1] .non),.asg 4 (.int 0),.frr (.name 5) (.seqV 3) #v[.asg 4 (.call 0 #v[.var 4,.var 5])],.ret (.fm .tupl #v[.comp (.bin .fdiv (.var 1) (.var 2)) (.name 1) (.seqV 3) 2 [4] .non])]
def zmj:Ss:=#v[.ret (.call 9 #v[.call 11 #v[.tup #v[.var 0,.int 1],.ix (.var 2) (.int 0)],.call 11 #v[.tup #v[.var 1,.int 1],.ix (.var 2) (.int 1)]])]
def zjk:Ss:=#v[.asg 3 (.call 50 #v[.var 1,.var 2,.ix (.var 0) (.int 0)]),.frr (.name 4) (.seq (.sl (.var 0) (.som (.int 1)) .non)) #v[.asg 5 (.call 50 #v[.var 1,.var 2,.var 4]),.iff (.call 21 #v[.var 3,.var 5]) #v[.asg 3 (.var 5)] .nil],.retV 3]
def zfm:Ss:=#v[.ret (.comp (.call 67 #v[.var 1,.var 2]) (.name 1) (.seqV 0) 2 [1] .non)]
def zml:Ss:=#v[.ret (.tup #v[.call 9 #v[.ix (.var 0) (.int 0),.ix (.var 1) (.int 0)],.call 9 #v[.ix (.var 0) (.int 1),.ix (.var 1) (.int 1)]])]
def zjj:Ss:=#v[.iff (.cmp .le (.ix (.var 1) (.int 0)) (.int 0)) #v[.never] .nil,.ret (.comp (.tup #v[.call 11 #v[.var 1,.var 3],.call 11 #v[.var 2,.var 3]]) (.tup [1,2]) (.seqV 0) 3 [1] .non)]
def zmk:Ss:=#v[.ret (.bin .sub (.bin .mul (.ix (.var 0) (.int 0)) (.ix (.var 1) (.int 1))) (.bin .mul (.ix (.var 0) (.int 1)) (.ix (.var 1) (.int 0))))]
def zhl:Ss:=#v[.asg 2 (.call 40 #v[.var 0]),.asg 3 (.call 40 #v[.var 1]),.asg 4 (.lst .nil),.asg 5 (.int 0),.asg 6 (.int 0),.whl (.or (.cmp .lt (.var 5) (.bi .len #v[.var 0])) (.cmp .lt (.var 6) (.bi .len #v[.var 1]))) #v[.app 4 (.call 67 #v[.ix (.var 0) (.bin .mod (.var 5) (.bi .len #v[.var 0])),.ix (.var 1) (.bin .mod (.var 6) (.bi .len #v[.var 1]))]),.asg 7 (.call 83 #v[.sl (.var 2) (.som (.var 5)) .non,.sl (.var 3) (.som (.var 6)) .non]),.iff (.cmp .ge (.var 7) (.int 0)) #v[.asg 5 (.bin .add (.var 5) (.int 1))] .nil,.iff (.cmp .le (.var 7) (.int 0)) #v[.asg 6 (.bin .add (.var 6) (.int 1))] .nil],.retV 4]
def zaq:Ss:=#v[.iff (.cmp .eq (.var 1) (.lst .nil)) #v[.ret (.int 1)] .nil,.iff (.cmp .eq (.var 0) (.lst .nil)) #v[.ret (.neg (.int 1))] .nil,.ret (.call 81 #v[.ix (.var 0) (.int 0),.ix (.var 1) (.int 0)])]
def o_bounds_of:It'×E×Es×Es:=((.enum (.call 40 #v[.var 0])),(.call 10 #v[.tup #v[.int 0,.int 1],.call 59 #v[.var 1,.neg (.ix (.var 4) (.int 0)),.neg (.ix (.var 4) (.int 1))]]),#v[.call 92 #v[.var 2,.var 6]],#v[.bi .len #v[.var 2]])
def zfl:Ss:=#v[.ret (.tup #v[.ix (.var 0) (.bin .sub (.var 1) (.int 1)),.ix (.var 0) (.var 1),.ix (.var 0) (.bin .mod (.bin .add (.var 1) (.int 1)) (.bi .len #v[.var 0]))])]
def zci:Ss:=#v[.asg 1 (.fld (.ix (.var 0) (.int 0)) 1),.asg 2 (.fld (.ix (.var 0) (.int 1)) 1),.asg 3 (.fld (.ix (.var 0) (.int 2)) 1),.ret (.lst #v[.call 81 #v[.var 2,.var 3],.call 81 #v[.var 3,.var 1],.call 81 #v[.var 1,.var 2]])]
def o_set_closing:Ss×E×Nat:=(#v[.asg 1 (.int 1),.frr (.name 2) (.seqV 0) #v[.asg 1 (.bin .mul (.var 1) (.ix (.fld (.var 2) 2) (.int 1)))],.asg 3 (.int 0),.asg 4 (.int 0),.frr (.tup [5,2]) (.zip (.call 93 #v[.var 0]) (.var 0)) #v[.asg 3 (.bin .sub (.var 3) (.bin .mul (.bin .mul (.var 5) (.ix (.fld (.var 2) 1) (.int 2))) (.var 1))),.asg 4 (.bin .sub (.var 4) (.bin .mul (.bin .mul (.var 5) (.ix (.fld (.var 2) 2) (.int 0))) (.bin .fdiv (.var 1) (.ix (.fld (.var 2) 2) (.int 1)))))],.asg 6 (.ix (.var 0) (.int 1))],(.ife (.cmp .gt (.var 4) (.int 0)) (.tup #v[.var 3,.var 4]) .non),6)
def zdx:Ss:=#v[.asg 1 .non,.frr (.name 2) (.range1 (.bi .len #v[.var 0])) #v[.asg 3 (.fld (.ix (.var 0) (.var 2)) 3),.iff (.and (.cmp .notN (.var 3) .non) (.or (.cmp .isN (.var 1) .non) (.call 21 #v[.var 3,.fld (.ix (.var 0) (.var 1)) 3]))) #v[.asg 1 (.var 2)] .nil],.retV 1]
def zdw:Ss:=#v[.ret (.cmp .ge (.ix (.call 93 #v[.call 92 #v[.var 0,.var 1]]) (.int 1)) (.int 0))]
def o_drop:Es×Es:=(#v[.call 92 #v[.var 0,.bin .sub (.var 1) (.int 1)]],#v[.call 92 #v[.var 0,.bin .mod (.var 1) (.bi .len #v[.var 0])]])
def zdm:Ss:=#v[.asg 3 (.call 99 #v[.var 0,.var 2]),.asg 4 (.call 99 #v[.var 1,.var 2]),.asg 5 (.tup #v[.call 81 #v[.fld (.var 0) 1,.fld (.var 1) 1],.int 1]),.asg 6 (.call 10 #v[.call 11 #v[.tup #v[.ix (.fld (.var 1) 1) (.int 1),.int 1],.var 3],.call 11 #v[.tup #v[.ix (.fld (.var 0) 1) (.int 1),.int 1],.var 4]]),.asg 7 (.call 10 #v[.call 11 #v[.tup #v[.ix (.fld (.var 0) 1) (.int 0),.int 1],.var 4],.call 11 #v[.tup #v[.ix (.fld (.var 1) 1) (.int 0),.int 1],.var 3]]),.ret (.tup #v[.call 20 #v[.var 6,.var 5],.call 20 #v[.var 7,.var 5]])]
def zfn:Ss:=#v[.ret (.call 10 #v[.tup #v[.ix (.fld (.var 0) 1) (.int 2),.int 1],.call 11 #v[.var 1,.fld (.var 0) 2]])]
def zbz:Ss:=#v[.asg 3 (.comp (.int 0) (.name 1) (.range1 (.var 1)) 2 [] .non),.frr (.name 2) (.range1 (.bi .max #v[.var 1,.bi .min #v[.bi .len #v[.var 0],.int 63]])) #v[.asg 4 (.int 0),.iff (.cmp .gt (.bi .len #v[.var 0]) (.int 0)) #v[.asg 4 (.bin .mod (.ix (.var 0) (.bin .mod (.var 2) (.bi .min #v[.bi .len #v[.var 0],.int 63]))) (.bin .add (.bin .pow (.int 10) (.int 60)) (.int 7)))] .nil,.asg 5 (.bin .mod (.var 2) (.var 1)),.seti 3 (.var 5) (.bin .mod (.bin .add (.bin .add (.bin .mul (.ix (.var 3) (.var 5)) (.int 48271)) (.var 4)) (.bin .mul (.var 2) (.var 2))) (.bin .add (.bin .pow (.int 10) (.int 60)) (.int 7)))],.retV 3]
def zcj:Ss:=#v[.asg 2 (.call 12 #v[.var 0,.var 1]),.ret (.tup #v[.bin .fdiv (.var 0) (.var 2),.bin .fdiv (.var 1) (.var 2)])]
def zbe:Ss:=#v[.asg 1 (.lst #v[.bin .sub (.bin .mod (.ix (.var 0) (.int 1)) (.int 3)) (.int 3)]),.frr (.name 2) (.range1 (.bin .add (.int 1) (.bin .mod (.ix (.var 0) (.int 2)) (.int 2)))) #v[.app 1 (.bin .add (.bin .add (.ix (.var 1) (.neg (.int 1))) (.int 1)) (.bin .mod (.bin .fdiv (.ix (.var 0) (.int 2)) (.bin .add (.int 2) (.bin .mul (.int 3) (.var 2)))) (.int 3)))],.asg 3 (.lst #v[.bin .sub (.bin .mod (.ix (.var 0) (.int 3)) (.int 4)) (.int 3)]),.frr (.name 2) (.range1 (.bin .mod (.bin .fdiv (.ix (.var 0) (.int 3)) (.int 4)) (.int 3))) #v[.app 3 (.bin .add (.bin .add (.ix (.var 3) (.neg (.int 1))) (.int 1)) (.bin .mod (.bin .fdiv (.ix (.var 0) (.int 4)) (.bin .add (.int 1) (.bin .mul (.int 3) (.var 2)))) (.int 3)))],.asg 4 (.bin .add (.bin .add (.bin .mul (.int 2) (.bi .max #v[.comp (.bin .mul (.var 1) (.var 1)) (.name 1) (.seq (.bin .add (.var 1) (.var 3))) 2 [] .non])) (.int 1)) (.bin .mod (.bin .fdiv (.ix (.var 0) (.int 4)) (.int 32)) (.int 9))),.ret (.bin .add (.comp (.tup #v[.var 1,.bin .mul (.var 1) (.var 1)]) (.name 1) (.seqV 1) 2 [] .non) (.comp (.tup #v[.var 1,.bin .sub (.var 2) (.bin .mul (.var 1) (.var 1))]) (.name 1) (.rev (.var 3)) 2 [4] .non))]
def zbd:Ss:=#v[.asg 1 (.tup #v[.bin .add (.int 1) (.bin .mod (.ix (.var 0) (.int 1)) (.int 5)),.bin .sub (.bin .mod (.ix (.var 0) (.int 2)) (.int 7)) (.int 3)]),.asg 2 (.tup #v[.bin .sub (.int 0) (.bin .mod (.ix (.var 0) (.int 3)) (.int 4)),.bin .add (.int 1) (.bin .mod (.ix (.var 0) (.int 4)) (.int 5))]),.iff (.cmp .le (.bin .mul (.ix (.var 1) (.int 0)) (.ix (.var 2) (.int 1))) (.bin .mul (.ix (.var 1) (.int 1)) (.ix (.var 2) (.int 0)))) #v[.asg 2 (.tup #v[.ix (.var 2) (.int 0),.bin .add (.ix (.var 2) (.int 1)) (.int 10)])] .nil,.asg 3 (.tup #v[.bin .add (.ix (.var 1) (.int 0)) (.ix (.var 2) (.int 0)),.bin .add (.ix (.var 1) (.int 1)) (.ix (.var 2) (.int 1))]),.asg 4 (.bin .mod (.ix (.var 0) (.int 0)) (.int 5)),.iff (.cmp .eq (.var 4) (.int 2)) #v[.ret (.lst #v[.tup #v[.int 0,.int 0],.var 1,.var 3,.var 2])] .nil,.iff (.cmp .eq (.var 4) (.int 3)) #v[.ret (.lst #v[.tup #v[.int 0,.int 0],.var 1,.var 2])] .nil,.iff (.cmp .eq (.var 4) (.int 4)) #v[.asg 5 (.tup #v[.bin .add (.ix (.var 1) (.int 0)) (.ix (.var 3) (.int 0)),.bin .add (.ix (.var 1) (.int 1)) (.ix (.var 3) (.int 1))]),.asg 6 (.tup #v[.bin .add (.ix (.var 2) (.int 0)) (.ix (.var 3) (.int 0)),.bin .add (.ix (.var 2) (.int 1)) (.ix (.var 3) (.int 1))]),.ret (.lst #v[.tup #v[.int 0,.int 0],.var 1,.var 5,.tup #v[.bin .mul (.int 2) (.ix (.var 3) (.int 0)),.bin .mul (.int 2) (.ix (.var 3) (.int 1))],.var 6,.var 2])] .nil,.ret (.call 105 #v[.var 0])]
def zaz:Ss:=#v[.asg 1 (.call 46 #v[.var 0]),.asg 2 (.ix (.lst #v[.int 1,.bin .add (.int 1) (.bin .mod (.ix (.var 0) (.int 5)) (.bin .pow (.int 10) (.int 9)))]) (.bin .mod (.bin .fdiv (.ix (.var 0) (.int 0)) (.int 5)) (.int 2))),.asg 3 (.ix (.lst #v[.int 10,.bin .pow (.int 10) (.int 18)]) (.bin .mod (.bin .fdiv (.ix (.var 0) (.int 0)) (.int 10)) (.int 2))),.asg 4 (.ix (.lst #v[.int 1,.bin .add (.int 1) (.bin .mod (.ix (.var 0) (.int 5)) (.int 6))]) (.bin .mod (.bin .fdiv (.ix (.var 0) (.int 0)) (.int 20)) (.int 2))),.asg 5 (.idx (.var 1) (.bi .min #v[.var 1])),.asg 6 (.lst .nil),.frr (.tup [7,8]) (.seq (.bin .add (.sl (.var 1) (.som (.var 5)) .non) (.sl (.var 1) .non (.som (.var 5))))) #v[.asg 9 (.call 103 #v[.bin .add (.bin .mul (.var 7) (.var 2)) (.bin .mod (.ix (.var 0) (.int 6)) (.var 3)),.var 4]),.app 6 (.tup #v[.var 9,.call 103 #v[.bin .add (.bin .mul (.var 8) (.var 2)) (.bin .mod (.ix (.var 0) (.int 7)) (.var 3)),.var 4]])],.retV 6]
def zga:Ss:=#v[.ret (.call 103 #v[.bin .add (.bin .mul (.ix (.var 0) (.int 0)) (.ix (.var 1) (.int 1))) (.bin .mul (.ix (.var 1) (.int 0)) (.ix (.var 0) (.int 1))),.bin .mul (.ix (.var 0) (.int 1)) (.ix (.var 1) (.int 1))])]
def zbk:Ss:=#v[.ret (.call 103 #v[.bin .mul (.ix (.var 0) (.int 0)) (.ix (.var 1) (.int 0)),.bin .mul (.ix (.var 0) (.int 1)) (.ix (.var 1) (.int 1))])]
end DL
namespace Hu
abbrev Pt:=Int×Int
def lt(a b:Pt):Prop:=a.1<b.1\/(a.1=b.1/\a.2<b.2)
end Hu
namespace DL
def zca:Ss:=#v[.ret (.comp (.call 98 #v[.ix (.var 2) (.bin .sub (.var 1) (.int 1)),.ix (.var 2) (.var 1),.var 3]) (.name 1) (.range1 (.bi .len #v[.var 0])) 2 [0,1] .non)]
def o_pushes:E×E×E×Ss:=((.call 95 #v[.var 2]),(.call 21 #v[.fld (.ix (.var 2) (.var 3)) 3,.tup #v[.int 1,.int 1]]),(.call 96 #v[.var 2,.var 3]),#v[.asg 4 (.call 100 #v[.var 2,.tup #v[.int 1,.int 1]]),.ret (.comp (.var 2) (.tup [1,2]) (.enum (.var 4)) 3 [4] (.som (.cmp .notin (.var 2) (.sl (.var 3) .non (.som (.var 1))))))])
def zbs:Ss:=#v[.asg 1 (.call 102 #v[.var 0,.int 20]),.asg 2 (.call 47 #v[.var 1]),.asg 3 (.call 47 #v[.sl (.var 1) (.som (.int 8)) .non]),.asg 4 (.call 82 #v[.var 2,.var 3]),.iff (.or (.cmp .ne (.call 101 #v[.var 4,.var 3]) (.var 2)) (.cmp .ne (.call 101 #v[.var 4,.var 2]) (.var 3))) #v[.ret (.bl false)] .nil,.iff (.cmp .ne (.call 101 #v[.var 2,.var 2]) (.lst #v[.tup #v[.tup #v[.int 0,.int 1],.tup #v[.int 0,.int 1]]])) #v[.ret (.bl false)] .nil,.asg 5 (.tup #v[.call 103 #v[.bin .sub (.bin .mod (.ix (.var 1) (.int 16)) (.int 199)) (.int 99),.bin .add (.int 1) (.bin .mod (.ix (.var 1) (.int 17)) (.int 5))],.call 103 #v[.bin .sub (.bin .mod (.ix (.var 1) (.int 17)) (.int 199)) (.int 99),.bin .add (.int 1) (.bin .mod (.ix (.var 1) (.int 16)) (.int 5))]]),.asg 6 (.call 103 #v[.bin .add (.int 1) (.bin .mod (.ix (.var 1) (.int 18)) (.int 9)),.bin .add (.int 1) (.bin .mod (.ix (.var 1) (.int 19)) (.int 9))]),.asg 7 (.call 101 #v[.var 2,.var 3]),.asg 8 (.comp (.tup #v[.call 108 #v[.var 1,.ix (.var 3) (.int 0)],.call 108 #v[.var 2,.ix (.var 3) (.int 1)]]) (.tup [1,2]) (.seqV 7) 3 [5] .non),.iff (.cmp .ne (.call 101 #v[.call 66 #v[.var 2,.var 5],.var 3]) (.var 8)) #v[.ret (.bl false)] .nil,.asg 9 (.comp (.tup #v[.call 74 #v[.var 1,.var 3],.call 74 #v[.var 2,.var 3]]) (.tup [1,2]) (.seqV 7) 3 [6] .non),.ret (.cmp .eq (.call 101 #v[.call 68 #v[.var 2,.var 6],.call 68 #v[.var 3,.var 6]]) (.var 9))]
open PySem L2 PyProof.Rows
section
variable{X:Cx}{c:TC}{Γ:Nat->∅}
def tPre(K:vE)(f g:Hp)(m e:RhoS)(u:TS):TS:=λD n H=>∃F,SR K f g F H n m/\∀d h l,Same F l->SR K f g l h d e->u D d h
theorem yhh(t:XC X c Γ){post:List Stmt}{u:TS}(v:PSs X post u)(n p:Hp):∀(z:List Stmt) (m:Nat) (f:Ss) (g d:RhoS),trSs m c z=some f->exs Γ f g=some (.nx d)->PSs X (z++post) (tPre X.K n p g d u)
 |[],0,_,_,_,h,_=>by simp only[trSs] at h;cases h
 |_::_,0,_,_,_,h,_=>by simp only[trSs] at h;cases h
 |[],m+1,f,g,d,h,e=>by
  simp only[trSs] at h;cases h;simp only[exs] at e;cases e;exact PSs.mono v λD A H ⟨F,S,k⟩=>k A H F (Same.refl _) S
 |s::l,m+1,f,g,d,h,e=>by
  simp only[trSs] at h;obtain⟨R,B,h⟩:=Za.mp h
  obtain⟨C,E,h⟩:=Zb.mp h
  subst h;simp only[exs] at e;obtain⟨o,G,e⟩:=Za.mp e
  cases o with
  |rt w=>cases e
  |nx q=>
   have a:=(zwc t m).1 _ _ _ _ B G n p;have b:=yhh t v n p l m C q d E e;exact PSs.mono (zak a b) λD A H ⟨F,S,k⟩=>⟨F,S,λI T J L M=>⟨J,M,λr N O P Q=>k r N O (L.trans P) Q⟩⟩
end
def BoAt(K:vE)(F H:Hp)(a:Addr)(l:List D):Prop:=F a=none/\∃C h d e f g,PySem.W.nsIn K mainGlobals "Bound" = some (some (.ref C))/\H a=some (.ins C h [("place",d),("side",e),("least",f),("closing",g)])/\DenL K F l [d,e,f,g]
structure Obs(K:vE)(F H:Hp)(L:Addr)(os:List (Addr×List D)):Prop where
 hL:H L=some (.lst (os.map λo=>.ref o.1))
 fL:F L=none
 ob:∀o∈os,BoAt K F H o.1 o.2
 nd:(os.map (·.1)).Nodup
def Tr(L:Addr)(d:List (Addr×List D))(b:Addr):Prop:=b=L\/b∈d.map (·.1)
open Classical in
def snap(F H:Hp)(L:Addr)(d:List (Addr×List D)):Hp:=λb=>if Tr L d b then H b else F b
open Classical in
def bare(F:Hp)(L:Addr)(d:List (Addr×List D)):Hp:=λb=>if Tr L d b then none else F b
def dOs(d:List (Addr×List D)):List D:=d.map λo=>.obj o.1 o.2
section
variable{K:vE}{F H:Hp}{L:Addr}{os:List (Addr×List D)}
theorem Obs.none(O:Obs K F H L os){b:Addr}(t:Tr L os b):F b=none:=by
 rcases t with t|t
 ·rw[t];exact O.fL
 ·obtain⟨o,d,e⟩:=Zv.mp t
  rw[<-e];exact(O.ob o d).1
def Obs.same(O:Obs K F H L os):Same F (snap F H L os):=λb o e=>by
 have d:¬Tr L os b:=λt=>by rw[O.none t] at e;cases e
 unfold snap;rw[if_neg d];exact e
def ycl(s:Same F H):Same (snap F H L os) H:=λb o e=>by
 unfold snap at e;by_cases t:Tr L os b
 ·rw[if_pos t] at e;exact e
 ·rw[if_neg t] at e;exact s b o e
def zib{b:Addr}(t:Tr L os b):snap F H L os b=H b:=by unfold snap;rw[if_pos t]
def Obs.denO(O:Obs K F H L os){o:Addr×List D}(e:o∈os):Den K (snap F H L os) (.obj o.1 o.2) (.ref o.1):=by
 obtain⟨_,C,n,f,g,l,m,c,h,d⟩:=O.ob o e
 have t:Tr L os o.1:=.inr (Yx e);exact Den.obj_mk (xs:=[f,g,l,m]) c ((zib t).trans h) rfl (d.mono O.same)
theorem zzv{G:Hp}:∀{l:List (Addr×List D)},(∀o∈l,Den K G (.obj o.1 o.2) (.ref o.1))->DenL K G (dOs l) (l.map λo=>.ref o.1)
 |[],_=>DenL.nil
 |o::l,h=>DenL.cons (h o Wu) (zzv λp d=>h p (Y0 _ d))
def Obs.den(O:Obs K F H L os):Den K (snap F H L os) (.lst (dOs os)) (.ref L):=
 Den.lst_mk (SqL.of ((zib (.inl rfl)).trans O.hL)) (zzv λo d=>O.denO d)
def zfk{d:Hp}(O:Obs K F H L os)(s:Same (snap F H L os) d):Same F (bare d L os):=λb o e=>by
 have f:¬Tr L os b:=λt=>by rw[O.none t] at e;cases e
 unfold bare;rw[if_neg f];exact s b o (O.same b o e)
def ygq{d f:Hp}(s:Same d f):Same (bare d L os) f:=λb o e=>by
 unfold bare at e;by_cases t:Tr L os b
 ·rw[if_pos t] at e;cases e
 ·rw[if_neg t] at e;exact s b o e
def ygr{d:Hp}(n:∀a o,d a=some o->snap F H L os a=some o\/H a=none):∀a o,bare d L os a=some o->F a=some o\/H a=none:=λa o e=>by
 unfold bare at e;by_cases t:Tr L os a
 ·rw[if_pos t] at e;cases e
 ·rw[if_neg t] at e;rcases n a o e with z|z
  ·unfold snap at z;rw[if_neg t] at z;exact .inl z
  ·exact .inr z
def zji{d:Hp}{b:Addr}(t:Tr L os b):bare d L os b=none:=by unfold bare;rw[if_pos t]
def Obs.at(O:Obs K F H L os){b:Addr}(t:Tr L os b):(∃f,H b=some (.lst f))\/∃C e g,H b=some (.ins C e g):=by
 rcases t with t|t
 ·subst t;exact .inl ⟨_,O.hL⟩
 ·obtain⟨o,l,m⟩:=Zv.mp t
  obtain⟨_,C,e,n,p,q,r,c,h,d⟩:=O.ob o l
  rw[<-m];exact .inr ⟨_,_,_,h⟩
def zti{d:Hp}(O:Obs K F H L os)(s:Same (snap F H L os) d):∀a f,SqT K d a f->SqT K (bare d L os) a f:=λa f h=>by
 have key:∀o,d a=some o->(∀g,o ≠ .lst g)->(∀C l m,o ≠ .ins C l m)->bare d L os a=some o:=λo e n p=>by
  have q:¬Tr L os a:=λt=>by
   rcases O.at t with⟨g,z⟩|⟨C,l,m,z⟩
   ·have:=s a _ ((zib t).trans z)
    rw[e] at this;exact n g (Zw this)
   ·have:=s a _ ((zib t).trans z)
    rw[e] at this;exact p _ _ _ (Zw this)
  unfold bare;rw[if_neg q];exact e
 rcases h with(h|⟨o,h⟩)|h
 ·exact .inl (.inl (key _ h (λ_ z=>by cases z) (λ_ _ _ z=>by cases z)))
 ·exact .inl (.inr ⟨o,key _ h (λ_ z=>by cases z) (λ_ _ _ z=>by cases z)⟩)
 ·exact .inr h
def BoAt.move{f g:Hp}{a:Addr}{l:List D}(B:BoAt K F H a l)(s:Same F f)(n:f a=Option.none)(e:g a=H a):BoAt K f g a l:=by
 obtain⟨_,C,m,o,p,q,r,c,h,d⟩:=B
 exact⟨n,C,m,o,p,q,r,c,e.trans h,d.mono s⟩
theorem Obs.move{d g:Hp}(O:Obs K F H L os)(s:Same F d)(n:∀b,Tr L os b->d b=Option.none)(e:∀b,Tr L os b->g b=H b):Obs K d g L os:=
 ⟨(e L (.inl rfl)).trans O.hL,n L (.inl rfl),λo f=>(O.ob o f).move s (n _ (.inr (Yx f))) (e _ (.inr (Yx f))),O.nd⟩
def Obs.read{d e:Hp}(O:Obs K F H L os)(s:Same (snap F H L os) d)(h:Same H e):Obs K (bare d L os) e L os:=
 O.move (zfk O s) (λb t=>zji t) (λb t=>by
  rcases O.at t with⟨f,z⟩|⟨C,g,l,z⟩
  ·rw[z];exact h b _ z
  ·rw[z];exact h b _ z)
end
open PySem L2 PyProof.Rows
structure SS(K:vE)(F H:Hp)(σ:L2.St)(ρ:Rho):Prop where
 sub:Same F H
 env:∀(i:Nat) d,ρ[i]? = some (some d)->∃v,σ[i]? = some (some v)/\Den K F d v
 len:σ.length=ρ.length
section
variable{K:vE}{F H F' H':Hp}{σ:L2.St}{ρ:Rho}
def SS.er(S:SS K F H σ ρ):ER K H F F H σ ρ:=⟨S.sub,Same.refl _,Same.refl _,λ_ _ e=>.inl e,S.env⟩
theorem SS.mono(S:SS K F H σ ρ)(s:Same F F')(h:Same F' H'):SS K F' H' σ ρ:=⟨h,λi d e=>by
 obtain⟨v,f,g⟩:=S.env i d e
 exact⟨v,f,g.mono s⟩,S.len⟩
theorem SS.set(S:SS K F H σ ρ){i:Nat}{d:D}{v:V}(f:i<ρ.length)(q:Den K F d v):SS K F H (σ.set i (some v)) (ρ.set i (some d)):=⟨S.sub,λj e h=>by
 by_cases z:i=j
 ·subst z;rw[Yy f] at h;cases h;exact⟨v,Yy (by rw[S.len];exact f),q⟩
 ·rw[Yl z] at h;obtain⟨u,g,l⟩:=S.env j e h
  exact⟨u,by rw[Yl z];exact g,l⟩,by rw[W6,W6];exact S.len⟩
end
section
variable{X:Cx}{c:TC}{Γ:Nat->∅}
def tEx(Γ:Nat->∅)(K:vE)(e:E):TE:=λh H Q=>∃F d w,SS K F H h d/\ev Γ e d=some w/\∀v f g,Same F g->ER K H F g f h d->RW K H g f w v->Q v f
def ylg(f:XE X c Γ){n:Nat}{e:Expr}{d:E}(h:trE n c e=some d):PE X e (tEx Γ X.K d):=λpins s g H Q I ⟨F,m,w,S,l,k⟩=>
 (zgn f n).1 _ _ _ _ h l H F pins s g H Q I ⟨F,S.er,k⟩
def tExs(Γ:Nat->∅)(K:vE)(e:Es):TA:=λg H Q=>∃F d h,SS K F H g d/\evs Γ e d=some h/\∀l m f,Same F f->ER K H F f m g d->DenL K f h l->Q l m
def pa_ex(f:XE X c Γ){n:Nat}{e:List Expr}{d:Es}(h:trEs n c e=some d):PA X e (tExs Γ X.K d):=λpos pins s g H Q I ⟨F,m,w,S,l,k⟩=>
 (zgn f n).2.1 _ _ _ _ h l H F pos pins s g H Q I ⟨F,S.er,k⟩
def tExT(Γ:Nat->∅)(K:vE)(e:E):TT:=λg H Q=>∃F f k,SS K F H g f/\((ev Γ e f).map W.d).bind zbg=some k/\∀h l,Same F l->ER K H F l h g f->Q k h
def pt_ex(f:XE X c Γ){n:Nat}{e:Expr}{d:E}(h:trT n c e=some d):PT X e (tExT Γ X.K d):=λpins s g H Q I ⟨F,m,k,S,l,q⟩=>
 (zrk f n).1 _ _ _ _ h l H F pins s g H Q I ⟨F,S.er,q⟩
end
def zgq(K:vE)(l:D->Addr->D->Prop):Sp:=λm H Q _=>∃F v T a d C h g,m=[v]/\Same F H/\Den K F T v/\l T a d/\F a=some (.ins C h g)/\g.length<1000/\PySem.W.nsIn K mainGlobals "Bound" = some (some (.ref C)) /\
 ∀e f u,Same F f->(∀b o,f b=some o->F b=some o\/H b=none)->(∀b o,b≠a->f b=some o->e b=some o)->(∀b o,b≠a->H b=some o->e b=some o)->e a=some (.ins C h (putF "closing" u g))->Den K f d u->Q .non e
section
variable{P:Program}{w:World}{K:vE}{mg:Str->Option Value}{base:Heap}{Γ:Nat->∅}
def set_ok{x t:Str}{r:Stmt}{f:Addr}{fd:FuncData}{N:List Str}{p mid:Str}{z k m:Nat}{h n:List (Str×Nat×Nat)}{B:List Stmt}{G:Ss}{g:Expr}{ve:E}{I J L:Pos}{Ψ:D->Addr->D->Prop}
 (Fn:Fun K x t r f fd)(S:FnScope N [p] (Bn r))(hb:Bq r=B++[.Assign [.Attribute (.Name mid I) "closing" J] g L])
 (M:trSs m ⟨N,Bn r,h,n,true⟩ B=some G)(O:trE m ⟨N,Bn r,h,n,true⟩ g=some ve)(U:slot ⟨N,Bn r,h,n,true⟩ mid=some z)
 (V:∀env,swapsWith g (some (.Attribute (.Name mid I) "closing" J)) L.line env=pure false)
 (hd:Deps P w K mg base k Γ h n true)
 (W:∀T a d,Ψ T a d->∃q l,exs Γ G ([~~~T]++List.replicate (N.length-1) none)=some (.nx q)/\(view q)[z]? = some (some (.obj a l))/\ev Γ ve (view q)=some (.val d)):
  FnOk P w K mg base CX0 (k+1) f fd [p] (zgq K Ψ):=by
 refine Fn.ok S (λvs H Q E ⟨F,v,T,a,d,C,dx,fs,X,_⟩=>by rw[X];rfl) (λa0 A outer s H vs Q E hr ⟨F,v,T,a,d,C,dx,fs,X,h2,h3,h4,h5,h6,h7,h8⟩=>?_);have Y:=zvj (CX:=CX0) (E:=E) (outer:=outer) (H:=H) S hd hr;subst X;obtain⟨q,l,e1,e2,e3⟩:=W T a d h4
 obtain⟨s1,s2,s3,s4⟩:=zau Y.toXE U
 have hv:=(zgn Y.toXE m).1 _ _ _ _ O e3 H F;have hl:=zdd (znf (f := "closing") (pos:=L) (pos':=J) (zax (pos:=I) s1 (DL.Loc.vis s2) s3 s4) hv (V _));have hp:=yhh Y hl H F B m G _ _ M e1;rw[<-hb] at hp;refine⟨_,hp,F,?_,λa1 H1 F1 q1 S1=>?_⟩
 ·exact zrn (N:=N) (K:=K) h2 (DenL.cons h3 DenL.nil)
 ·obtain⟨s0,R⟩:=S1.borrow
  refine⟨_,R,λu H2 F2 q2 R2 dn=>?_⟩
  obtain⟨y,y1,y2⟩:=R2.env z _ e2
  obtain⟨z1,C',a2,a3,xs,z2,z3,z4,z5⟩:=y2.obj
  have z6:=R2.base _ _ h5;rw[z3] at z6;cases z6;obtain⟨Z,c',cl,na⟩:=(hd.xf rfl).ex
  have c2:some (some (Value.ref C))=some (some (Value.ref Z)):=h7.symm.trans c';cases c2;refine⟨y,y1,a,C,dx,fs,z1,R2.sub _ _ z3,cl,na "closing" vA,h6,?_⟩
  refine h8 _ F2 u R2.base R2.new (λb o nb e=>?_) (λb o nb e=>?_) Bv dn
  ·rw[Bt nb];exact R2.sub b o e
  ·rw[Bt nb];exact R2.same b o e
def zwn(K:vE):Sp:=λh H Q _=>∃x C d e f g,h=[.ref x,e,f,g]/\PySem.W.nsIn K mainGlobals "Bound" = some (some (.ref C))/\H x=some (.ins C d []) /\
 Q .non (upd H x (.ins C d [("place",e),("side",f),("least",g),("closing", .non)]))
def ymo{x e:Str}{g:Stmt}{f:Addr}{r:FuncData}{k:Nat}{u v z D F G I J L M N O R T U W:Pos}{X}(Y:Fun K x e g f r)(S:FnScope ["self","place","side","least"] ["self","place","side","least"] (Bn g))
 (Z:Bq g=[.Assign [.Attribute (.Name "self" u) "place" v] (.Name "place" z) D,.Assign [.Attribute (.Name "self" F) "side" G] (.Name "side" I) J,.Assign [.Attribute (.Name "self" L) "least" M] (.Name "least" N) O,.Assign [.Attribute (.Name "self" R) "closing" T] (.Constant .none X U) W])
 (hl:∀y∈(["self","place","side","least"]:List Str),(Bn g).names.lookup y=some .local)(B:BFacts K):FnOk P w K mg base CX0 (k+1) f r ["self","place","side","least"] (zwn K):=by
 refine Y.ok S (λvs H Q E ⟨x,C,h,l,v1,o,p,_⟩=>by rw[p];rfl) (λq A outer s H vs Q E hr ⟨x,C,h,l,v1,o,p,h2,h3,h4⟩=>?_);subst p;obtain⟨a0,t,m,n⟩:=B.ex
 rw[h2] at t;cases t;rw[Z];have d:∀y∈(["self","place","side","least"]:List Str),Vis (cxOf CX0 P w K mg base ["self","place","side","least"] e (Bn g) f q A outer s H E).nox.env.scope y:=λy hy=>.inl (hl y hy)
 refine⟨_,zak (znf (f := "place") (zax (i:=0) rfl (d "self" vA)) (zax (i:=1) rfl (d "place" vA)) rfl)
  (zak (znf (f := "side") (zax (i:=0) rfl (d "self" vA)) (zax (i:=2) rfl (d "side" vA)) rfl)
  (zak (znf (f := "least") (zax (i:=0) rfl (d "self" vA)) (zax (i:=3) rfl (d "least" vA)) rfl)
  (zdd (znf (f := "closing") (zax (i:=0) rfl (d "self" vA)) yhj rfl)))),?_⟩
 have l1:=zcc "place" l [];have l2:=zcc "side" v1 (putF "place" l []);have l3:=zcc "least" o (putF "side" v1 (putF "place" l []));have l0:([]:List (Str×V)).length=0:=rfl;refine⟨l,rfl,.ref x,rfl,x,C,h,[],rfl,h3,m,n "place" vA,by decide,?_⟩
 refine⟨v1,rfl,.ref x,rfl,x,C,h,_,rfl,Bv,m,n "side" vA,by omega,?_⟩
 refine⟨o,rfl,.ref x,rfl,x,C,h,_,rfl,Bv,m,n "least" vA,by omega,?_⟩
 refine⟨.ref x,rfl,x,C,h,_,rfl,Bv,m,n "closing" vA,by omega,?_⟩
 show Q .non _;rw[zkq,zkq,zkq];exact h4
end
open PySem L2 PyProof.Rows
def GSp(P:Program)(w:World)(K:vE)(e:Str->Option Value)(d:Heap)(k:Nat)(x:Str)(sp:Sp):Prop:=
 ∃(a:Addr) (f:FuncData) (ps:List Str),FnOk P w K e d CX0 k a f ps sp/\e x=some (.ref a)/\PySem.W.keepIn K (.ref a)=true/\Binds K f ps []
structure BS(K:vE)(F H:Hp)(σ:L2.St)(ρ:Rho)(L:Addr)(os:List (Addr×List D))(ib:Nat):Prop where
 ss:SS K F H σ ρ
 ob:Obs K F H L os
 hb:σ[ib]? = some (some (.ref L))
 nb:ρ[ib]? = some none
structure Kp(H0 F0:Hp)(T:Addr->Prop)(F H:Hp):Prop where
 fs:Same F0 F
 new:∀b o,F b=some o->F0 b=some o\/H0 b=none
 hs:∀b o,H0 b=some o -> ¬T b->H b=some o
theorem Kp.trans{H0 F0 g h f l:Hp}{T m:Addr->Prop}(a:Kp H0 F0 T g h)(b:Kp h g m f l)(t:∀b,m b->T b)(n:∀b,T b->f b=none):Kp H0 F0 T f l:=
 ⟨a.fs.trans b.fs,λc o e=>(b.new c o e).elim (λz=>a.new c o z) (λz=>by
  refine .inr ?_;cases q:H0 c with
  |none=>rfl
  |some u=>
   have d:¬T c:=λt=>by rw[n c t] at e;cases e
   rw[a.hs c u q d] at z;cases z),λc o e d=>b.hs c o (a.hs c o e d) λp=>d (t c p)⟩
def rhoB(d:Rho)(e:Nat)(f:List (Addr×List D)):Rho:=d.set e (some (.lst (dOs f)))
section
variable{K:vE}{F H:Hp}{σ:L2.St}{ρ:Rho}{L:Addr}{os:List (Addr×List D)}{ib:Nat}{Γ:Nat->∅}
def zzi{d:Type}{l:List d}{i:Nat}{x:d}(h:l[i]? = some x):i<l.length:=(Zm.mp h).1
theorem BS.snap(B:BS K F H σ ρ L os ib):SS K (DL.snap F H L os) H σ (rhoB ρ ib os):=by
 have d:=B.ss.mono B.ob.same (ycl B.ss.sub);have:=d.set (zzi B.nb) B.ob.den
 rwa [show σ.set ib (some (.ref L))=σ from ?_] at this
 apply Ka
 intro j;by_cases z:ib=j
 ·subst z;rw[Yy (zzi B.hb),B.hb]
 ·rw[Yl z]
def BS.back(B:BS K F H σ ρ L os ib){d f:Hp}(s:Same (DL.snap F H L os) d)(R:ER K H (DL.snap F H L os) d f σ (rhoB ρ ib os)):BS K (bare d L os) f σ ρ L os ib/\Kp H F (λ_=>False) (bare d L os) f:=
 ⟨⟨B.ss.mono (zfk B.ob s) (ygq R.sub),B.ob.read s R.same,B.hb,B.nb⟩,zfk B.ob s,ygr R.new,λb o e _=>R.same b o e⟩
theorem BS.set(B:BS K F H σ ρ L os ib){i:Nat}{d:D}{v:V}(f:i<ρ.length)(e:i≠ib)(q:Den K F d v):BS K F H (σ.set i (some v)) (ρ.set i (some d)) L os ib:=
 ⟨B.ss.set f q,B.ob,by rw[Yl e];exact B.hb,by rw[Yl e];exact B.nb⟩
def setC(os:List (Addr×List D))(a:Addr)(d:D):List (Addr×List D):=os.map λo=>(o.1,if o.1=a then o.2.set 3 d else o.2)
def zky{a:Addr}{d:D}:(setC os a d).map (·.1)=os.map (·.1):=by
 unfold setC;rw[Ye];rfl
def ycq{a:Addr}{d:D}:(setC os a d).map (λo=>V.ref o.1)=os.map λo=>V.ref o.1:=by
 unfold setC;rw[Ye];rfl
def setC_tr{a:Addr}{d:D}{b:Addr}:Tr L (setC os a d) b↔Tr L os b:=by unfold Tr;rw[zky]
def znd{d e f g u:V}:putF "closing" u [("place",d),("side",e),("least",f),("closing",g)]=([("place",d),("side",e),("least",f),("closing",u)]:List (Str×V)):=by
 unfold putF;rw[if_neg vA];unfold putF;rw[if_neg vA];unfold putF;rw[if_neg vA];unfold putF;rw[if_pos rfl]
def zzw{G:Hp}{l:List D}{n o p r u:V}{d:D}(h:DenL K G l [n,o,p,r])(q:Den K G d u):DenL K G (l.set 3 d) [n,o,p,u]:=by
 obtain⟨f,g,rfl⟩:∃f g,l=f::g:=by cases l with|nil=>have:=h.length;cases this|cons a b=>exact⟨a,b,rfl⟩
 obtain⟨_,_,e,s,h⟩:=h.inv_cons;cases e
 obtain⟨w,l1,rfl⟩:∃f l1,g=f::l1:=by cases g with|nil=>have:=h.length;cases this|cons a b=>exact⟨a,b,rfl⟩
 obtain⟨_,_,e,t,h⟩:=h.inv_cons;cases e
 obtain⟨A,l2,rfl⟩:∃f l2,l1=f::l2:=by cases l1 with|nil=>have:=h.length;cases this|cons a b=>exact⟨a,b,rfl⟩
 obtain⟨_,_,e,v,h⟩:=h.inv_cons;cases e
 obtain⟨B,m,rfl⟩:∃f m,l2=f::m:=by cases l2 with|nil=>have:=h.length;cases this|cons a b=>exact⟨a,b,rfl⟩
 obtain⟨_,_,e,C,h⟩:=h.inv_cons;cases e
 have z:m=[]:=by have:=h.length;exact Js.mp this.symm
 subst z;exact DenL.cons s (DenL.cons t (DenL.cons v (DenL.cons q DenL.nil)))
theorem Obs.setC{f H3:Hp}(O:Obs K F H L os){a:Addr}{d:D}{u:V}{C r:Addr}{t:List (Str×V)}(N:a∈os.map (·.1))(s:Same F f)(n:∀b,Tr L os b->f b=Option.none)(e:∀b o,b≠a->H b=some o->H3 b=some o)
 (g:H a=some (.ins C r t))(I:H3 a=some (.ins C r (putF "closing" u t)))(q:Den K f d u):Obs K f H3 L (DL.setC os a d):=by
 have l:L≠a:=λz=>by subst z;rw[O.hL] at g;cases g
 refine⟨by rw[ycq];exact e L _ l O.hL,n L (.inl rfl),λo v=>?_,by rw[zky];exact O.nd⟩
 unfold DL.setC at v;obtain⟨p,w,rfl⟩:=Zv.mp v
 obtain⟨P,J,m,A,B,E,M,c,h,G⟩:=O.ob p w
 refine⟨n p.1 (.inr (Yx w)),?_⟩
 by_cases z:p.1=a
 ·simp only[if_pos z];rw[z] at h |-;rw[g] at h;cases h;exact⟨_,_,A,B,E,u,c,by rw[I,znd],zzw (G.mono s) q⟩
 ·simp only[if_neg z];exact⟨J,m,A,B,E,M,c,e _ _ z h,G.mono s⟩
def BS.setc(B:BS K F H σ ρ L os ib){q:D->Addr->D->Prop}{I:Es}{T d:D}{a:Addr}{E:XK}{Q:VK}(W:evs Γ I (rhoB ρ ib os)=some [T])(X:q T a d)(Y:lf d=true)(r:a∈os.map (·.1))
 (k:∀f g,BS K g f σ ρ L (DL.setC os a d) ib->Kp H F (Tr L os) g f->Q .non f):zpe (zgq K q) [] E (tExs Γ K I) σ H Q:=
 ⟨_,_,_,B.snap,W,λZ J M s l q1=>by
  show zgq K q (Z++[]) J Q E;rw[Qm];obtain⟨v,a0,e,qv,qn⟩:=q1.inv_cons
  have:=qn.inv_nil
  subst this e;obtain⟨o,ho,eo⟩:=Zv.mp r
  obtain⟨f0,C,w,N,O,P,R,c,h,dd⟩:=B.ob.ob o ho
  rw[eo] at h;have A:Tr L os a:=.inr r;have S:M a=some (.ins C w [("place",N),("side",O),("least",P),("closing",R)]):=s _ _ ((zib A).trans h);refine⟨M,v,T,a,d,C,w,_,rfl,l.sub,qv,X,S,by simp only[Zr,Q4];decide,c,λf g u U n2 b2 V w2 dn=>?_⟩
  have m:Same (DL.snap F H L os) g:=s.trans U;obtain⟨B1,a1⟩:=B.back s l
  have G:J a=some (.ins C w [("place",N),("side",O),("least",P),("closing",R)]):=l.sub _ _ S;have sm:Same F (bare g L os):=zfk B.ob m;have n:Same (bare g L os) f:=λb o e=>by
   unfold bare at e;by_cases t:Tr L os b
   ·rw[if_pos t] at e;cases e
   ·rw[if_neg t] at e;exact b2 b o (λz=>t (z ▸ A)) e
  have O2:Obs K (bare g L os) f L (DL.setC os a d):=B1.ob.setC r (λb o e=>by
   unfold bare at e |-;by_cases t:Tr L os b
   ·rw[if_pos t] at e;cases e
   ·rw[if_neg t] at e |-;exact U b o e) (λb t=>zji t) V G w2 (Den.shrink (zti B.ob m) d Y dn)
  refine k f _ ⟨B.ss.mono sm n,O2,B.hb,B.nb⟩ ⟨sm,λb o e=>?_,λb o e p=>V b o (λz=>p (z ▸ A)) (l.same b o e)⟩;have p:¬Tr L os b:=λt=>by rw[zji t] at e;cases e
  unfold bare at e;rw[if_neg p] at e;rcases n2 b o e with z|z
  ·rcases l.new b o z with y|y
   ·unfold DL.snap at y;rw[if_neg p] at y;exact .inl y
   ·exact .inr y
  ·exact .inr (l.same.free z)⟩
end
open PySem L2 PyProof.Rows
def zkc(K:vE)(l:List (Addr×List D)->Int->List (Addr×List D)->Prop):Sp:=λm H Q _=>∃F L e h d,m=[.ref L,.int h]/\Same F H/\Obs K F H L e/\l e h d /\
 ∀f g,Same g f->Kp H F (Tr L e) g f->(∀b,Tr L e b->g b=none)->Obs K g f L d->Q .non f
theorem zno{d e:Type}(f:d->e):∀(l:List d) (n:Nat),(l.map f).eraseIdx n=(l.eraseIdx n).map f
 |[],_=>rfl
 |a::l,0=>rfl
 |a::l,n+1=>by
  show f a::(l.map f).eraseIdx n=f a::(l.eraseIdx n).map f;rw[zno f l n]
section
variable{K:vE}{F H:Hp}{L:Addr}{os:List (Addr×List D)}
def Obs.erase(O:Obs K F H L os)(n:Nat):Obs K F (upd H L (.lst ((os.eraseIdx n).map λo=>.ref o.1))) L (os.eraseIdx n):=by
 have e:(os.eraseIdx n).Sublist os:=Gc os n;refine⟨Bv,O.fL,λo f=>?_,O.nd.sublist (e.map _)⟩
 have B:=O.ob o (e.subset f);refine B.move (Same.refl _) B.1 (Bt λz=>?_);obtain⟨_,C,g,l,m,p,q,c,h,d⟩:=B
 rw[z,O.hL] at h;cases h
end
section
variable{P:Program}{w:World}{K:vE}{mg:Str->Option Value}{base:Heap}{Γ:Nat->∅}
def zpq{X:Cx}{c:TC}{m k:Nat}{e:Expr}{s:Es}{p g h:Pos}{d:D->Addr->D->Prop}(f:XE X c Γ)(l:Room k X.A)(n:trEs m c [e]=some s)(o:Br e=true)(q:isGl c "set_closing" = true)
 (G:GSp X.prog X.w X.K X.mg X.base k "set_closing" (zgq X.K d)):PS X (.Expr (.Call (.Name "set_closing" p) [e] [] g) h) (yci (zpe (zgq X.K d) [] E0 (tExs Γ X.K s))):=by
 obtain⟨a,C,ps,r,t,u,v⟩:=G
 obtain⟨z,B⟩:=zem f q
 exact zij (zpt (E:=E0) r l z t u v .nil ydr (pa_ex f n) B (Bw o) rfl) rfl
def yno{x v:Str}{B:Stmt}{f:Addr}{fd:FuncData}{k m:Nat}{r u:List (Str×Nat×Nat)}{X Y:Expr}{s1 s2:Es}{p p1 p2 p3 ap cp ep c1 c2 q1 q2:Pos}{Z:D->Addr->D->Prop}{Θ:List (Addr×List D)->Int->List (Addr×List D)->Prop}
 (Fn:Fun K x v B f fd)(S:FnScope ["bounds","k"] ["bounds","k"] (Bn B))
 (hb:Bq B=[.Expr (.Call (.Attribute (.Name "bounds" p) "pop" ap) [.Name "k" p1] [] cp) ep,.Expr (.Call (.Name "set_closing" p2) [X] [] c1) q1,.Expr (.Call (.Name "set_closing" p3) [Y] [] c2) q2])
 (C:(ap.endLine == cp.line)=true)(hl:∀y∈(["bounds","k"]:List Str),(Bn B).names.lookup y=some .local)
 (a0:trEs m ⟨["bounds","k"],Bn B,r,u,true⟩ [X]=some s1)(a3:trEs m ⟨["bounds","k"],Bn B,r,u,true⟩ [Y]=some s2)(n1:Br X=true)(n2:Br Y=true)
 (hg:isGl ⟨["bounds","k"],Bn B,r,u,true⟩ "set_closing" = true)(G:GSp P w K mg base k "set_closing" (zgq K Z))(hd:Deps P w K mg base k Γ r u true)
 (a4:∀g h l,Θ g h l -> -(2^63)<=h/\h<2^63/\∃n T1 J M T2 T U,seqIndex? h g.length=some n/\n<g.length /\
   evs Γ s1 [some (.lst (dOs (g.eraseIdx n))),some (.int h)]=some [T1]/\Z T1 J M/\lf M=true/\J∈(g.eraseIdx n).map (·.1) /\
   evs Γ s2 [some (.lst (dOs (setC (g.eraseIdx n) J M))),some (.int h)]=some [T2]/\Z T2 T U/\lf U=true/\T∈(g.eraseIdx n).map (·.1)/\l=setC (setC (g.eraseIdx n) J M) T U):
  FnOk P w K mg base CX0 (k+1) f fd ["bounds","k"] (zkc K Θ):=by
 refine Fn.ok S (λvs H Q E ⟨F,L,g,h,l,h1,_⟩=>by rw[h1];rfl) (λa5 A outer s H vs Q E hr ⟨F,L,g,h,l,h1,h2,I,h4,h5⟩=>?_);have hX:=zvj (CX:=CX0) (E:=E) (outer:=outer) (H:=H) S hd hr;subst h1;obtain⟨b1,b2,n,T1,J,M,T2,T,U,g1,g2,g3,g4,g5,g6,g7,g8,g9,a6,rfl⟩:=a4 g h l h4
 rw[hb];have N:∀y∈(["bounds","k"]:List Str),Vis (cxOf CX0 P w K mg base ["bounds","k"] v (Bn B) f a5 A outer s H E).nox.env.scope y:=λy hy=>.inl (hl y hy)
 refine⟨_,zak (zij (ydq Jm PySem.F.slot_list_pop PySem.F.type_list_pop yeb (zax (i:=0) rfl (N "bounds" vA)) (zct (zax (i:=1) rfl (N "k" vA)) zgg (Bw rfl)) rfl (by rw[Bw rfl];rfl) C (Bw rfl) rfl) rfl)
  (zak (zpq (k:=k) hX.toXE hr a0 n1 hg G) (zdd (zpq (k:=k) hX.toXE hr a3 n2 hg G))),?_⟩
 have hx:(g.map λo=>V.ref o.1)[n]? = some (V.ref (g[n]'g2).1):=by rw[Zh,Zi g2];rfl
 refine⟨_,rfl,.inl ⟨rfl,_,SqL.of I.hL⟩,.int h,rfl,L,_,h,n,_,rfl,rfl,I.hL,b1,b2,by rw[Zc];exact g1,hx,?_⟩
 rw[zno];have O1:=I.erase n;have F1:Same F (upd H L (.lst ((g.eraseIdx n).map λo=>.ref o.1))):=λb o e=>by
  rw[Bt (λz=>by subst z;rw[I.fL] at e;cases e)];exact h2 b o e
 have B1:BS K F (upd H L (.lst ((g.eraseIdx n).map λo=>.ref o.1))) (L2.start ["bounds","k"] [.ref L,.int h]) [none,some (.int h)] L (g.eraseIdx n) 0:=by
  refine⟨⟨F1,λi d e=>?_,rfl⟩,O1,rfl,rfl⟩
  match i,e with
  |1,e=>
   cases e;exact⟨_,rfl,Den.int_mk⟩
 have K1:Kp H F (Tr L g) F (upd H L (.lst ((g.eraseIdx n).map λo=>.ref o.1))):=⟨Same.refl _,λ_ _ e=>.inl e,λb o e nt=>by rw[Bt λz=>nt (.inl z)];exact e⟩;have trS:∀b,Tr L (g.eraseIdx n) b->Tr L g b:=λb t=>t.imp id λt=>((Gc g n).map _).subset t
 refine B1.setc g3 g4 g5 g6 λH2 F2 B2 k2=>?_;have O:∀b,Tr L g b->F2 b=none:=λb t=>by
  cases q:F2 b with
  |none=>rfl
  |some o=>
   rcases k2.new b o q with z|z
   ·rw[I.none t] at z;cases z
   ·have:=I.at t
    by_cases W:b=L
    ·subst W;rw[Bv] at z;cases z
    ·rw[Bt W] at z;rcases this with⟨_,y⟩|⟨_,_,_,y⟩<;>(rw[y] at z;cases z)
 have K2:=K1.trans k2 trS O;refine B2.setc g7 g8 g9 (by rw[zky];exact a6) λH3 F3 B3 k3=>?_;have R:∀b,Tr L g b->F3 b=none:=λb t=>by
  cases q:F3 b with
  |none=>rfl
  |some o=>
   rcases k3.new b o q with z|z
   ·rw[O b t] at z;cases z
   ·by_cases t2:Tr L (g.eraseIdx n) b
    ·have:=B2.ob.at (setC_tr.mpr t2)
     rcases this with⟨_,y⟩|⟨_,_,_,y⟩<;>(rw[y] at z;cases z)
    ·have W:b≠L:=λz=>t2 (.inl z)
     rcases I.at t with⟨_,y⟩|⟨_,_,_,y⟩<;>(rw[<-Bt (H:=H) (o:=.lst ((g.eraseIdx n).map λo=>.ref o.1)) W] at y;rw[k2.hs b _ y t2] at z;cases z)
 exact h5 H3 F3 B3.ss.sub (K2.trans k3 (λb t=>trS b (setC_tr.mp t)) R) R B3.ob
end
open PySem L2 PyProof.Rows
structure KnB(H0 F0 F H:Hp):Prop where
 fs:Same F0 F
 new:∀b o,F b=some o->F0 b=some o\/H0 b=none
 hs:Same H0 H
def KnB.step{H0 F0 d g f l:Hp}(k:KnB H0 F0 d g)(s:Same d f)(n:∀b o,f b=some o->d b=some o\/g b=none)(h:Same H0 l):KnB H0 F0 f l:=
 ⟨k.fs.trans s,λb o e=>(n b o e).elim (k.new b o) λz=>.inr (k.hs.free z),h⟩
section
variable{K:vE}{F H:Hp}{L:Addr}{os:List (Addr×List D)}
def Obs.add(O:Obs K F H L os)(A:Same F H){C x g:Addr}{n q r:V}{p s l:D}(G:PySem.W.nsIn K mainGlobals "Bound" = some (some (.ref C)))(E:H x=Option.none)(u:H g=Option.none)(ne:g≠x)
 (I:Den K F p n)(J:Den K F s q)(M:Den K F l r){t:Hp}(e:t=upd (upd (upd H g (.own x)) x (.ins C g [("place",n),("side",q),("least",r),("closing", .non)])) L (.lst ((os.map λo=>.ref o.1)++[.ref x]))):
  Obs K F t L (os++[(x,[p,s,l,.non])])/\Same F t/\(∀b o,H b=some o->b≠L->t b=some o):=by
 subst e;have v:∀b o,H b=some o->b≠x:=λb o e z=>by rw[z,E] at e;cases e
 have N:∀b o,H b=some o->b≠g:=λb o e z=>by rw[z,u] at e;cases e
 have f:∀b o,H b=some o->b≠L->upd (upd (upd H g (.own x)) x (.ins C g [("place",n),("side",q),("least",r),("closing", .non)])) L (.lst ((os.map λo=>.ref o.1)++[.ref x])) b=some o:=λb o e P=>by
  rw[Bt P,Bt (v b o e),Bt (N b o e)];exact e
 have Q:x≠L:=λz=>v L _ O.hL z.symm
 have R:F x=Option.none:=A.free E;refine⟨⟨?_,O.fL,λo m=>?_,?_⟩,λb o e=>f b o (A b o e) (λz=>by rw[z,O.fL] at e;cases e),f⟩
 ·rw[Bv,Y3];rfl
 ·rcases Y6.mp m with m|m
  ·have B:=O.ob o m;refine B.move (Same.refl _) B.1 ?_;obtain⟨_,S,w,T,U,X,Y,c,h,d⟩:=B
   rw[h];exact f _ _ h (λz=>by rw[z,O.hL] at h;cases h)
  ·have:=Zp.mp m
   subst this;exact⟨R,C,g,n,q,r,.non,G,by rw[Bt Q,Bv],DenL.cons I (DenL.cons J (DenL.cons M (DenL.cons Den.non_mk DenL.nil)))⟩
 ·rw[Y3];refine U0.mpr ⟨O.nd,Wj _ _,λa Z b hb z=>?_⟩;have:=Zp.mp hb
  subst this;obtain⟨o,h1,h2⟩:=Zv.mp Z
  obtain⟨_,S,w,T,U,X,Y,c,h,d⟩:=O.ob o h1
  exact v _ _ h (h2.trans z)
end
structure MkB(P:Program)(w:World)(K:vE)(mg:Str->Option Value)(base:Heap)(k:Nat):Prop where
 ex:∃C f fd ps,PySem.W.nsIn K mainGlobals "Bound" = some (some (.ref C))/\mg "Bound" = some (.ref C)/\Mk K C f/\FnOk P w K mg base CX0 k f fd ps (zwn K)/\Binds K fd ps []
def rB(d e:D)(f g h l:Option D):Rho:=[some d,some e,none,f,g,h,l]
def NB:List Str:=["one","other","bounds","place","side","least","k"]
structure FB(K:vE)(H0 F0 F H:Hp)(σ:L2.St)(ρ:Rho)(L:Addr)(os:List (Addr×List D)):Prop where
 bs:BS K F H σ ρ L os 2
 kn:KnB H0 F0 F H
 fr:∀b,Tr L os b->H0 b=none
section
variable{K:vE}{H0 F0 F H:Hp}{σ:L2.St}{ρ:Rho}{L:Addr}{os:List (Addr×List D)}{Γ:Nat->∅}
def FB.more(B:FB K H0 F0 F H σ ρ L os){d e:Hp}(s:Same F d)(f:Same d e)(n:∀b o,d b=some o->F b=some o\/H b=none)(h:Same H e):FB K H0 F0 d e σ ρ L os:=by
 refine⟨⟨B.bs.ss.mono s f,B.bs.ob.move s (λb t=>?_) (λb t=>?_),B.bs.hb,B.bs.nb⟩,B.kn.step s n (B.kn.hs.trans h),B.fr⟩
 ·cases q:d b with
  |none=>rfl
  |some o=>
   rcases n b o q with z|z
   ·rw[B.bs.ob.none t] at z;cases z
   ·rcases B.bs.ob.at t with⟨_,y⟩|⟨_,_,_,y⟩<;>(rw[y] at z;cases z)
 ·rcases B.bs.ob.at t with⟨_,y⟩|⟨_,_,_,y⟩<;>(rw[y];exact h _ _ y)
theorem FB.set(B:FB K H0 F0 F H σ ρ L os){i:Nat}{d:D}{v:V}(e:i<ρ.length)(f:i≠2)(q:Den K F d v):FB K H0 F0 F H (σ.set i (some v)) (ρ.set i (some d)) L os:=⟨B.bs.set e f q,B.kn,B.fr⟩
def FB.ex(B:FB K H0 F0 F H σ ρ L os){e:E}{d:D}{Q:VK}(h:ev Γ e ρ=some (.val d))(k:∀v g f,Same F f->FB K H0 F0 f g σ ρ L os->Den K f d v->Q v g):tEx Γ K e σ H Q:=
 ⟨_,_,_,B.bs.ss,h,λv g f s R q=>k v g f s (B.more s R.sub R.new R.same) q⟩
theorem FB.setc(B:FB K H0 F0 F H σ ρ L os){l:D->Addr->D->Prop}{m:Es}{T d:D}{a:Addr}{E:XK}{Q:VK}(n:evs Γ m (rhoB ρ 2 os)=some [T])(p:l T a d)(q:lf d=true)(r:a∈os.map (·.1))
 (k:∀f g,FB K H0 F0 g f σ ρ L (DL.setC os a d)->Q .non f):zpe (zgq K l) [] E (tExs Γ K m) σ H Q:=
 B.bs.setc n p q r λf g s h=>k f g ⟨s,B.kn.step h.fs h.new (λb o e=>h.hs b o (B.kn.hs b o e) λt=>by rw[B.fr b t] at e;cases e),λb t=>B.fr b (setC_tr.mp t)⟩
theorem FB.add(B:FB K H0 F0 F H σ ρ L os){C:Addr}{p s l:D}{E:XK}{g:Ends}(h:PySem.W.nsIn K mainGlobals "Bound" = some (some (.ref C)))(v:ρ[3]? = some (some p))(w:ρ[4]? = some (some s))(A:ρ[5]? = some (some l))(G:os.length<sizeLine)
 (k:∀m x,FB K H0 F0 F m σ ρ L (os++[(x,[p,s,l,.non])])->g.nx σ m):
  yci (tBM K "list" zxf (tVar 2) (zhz (tMake C (zwn K) [] E (zhz (tVar 3) (zhz (tVar 4) (zhz (tVar 5) tNil)))) tNil)) g σ H:=by
 obtain⟨n,I,J⟩:=B.bs.ss.env 3 _ v
 obtain⟨v1,M,N⟩:=B.bs.ss.env 4 _ w
 obtain⟨q,O,P⟩:=B.bs.ss.env 5 _ A
 refine⟨_,B.bs.hb,.inl ⟨rfl,_,SqL.of B.bs.ob.hL⟩,n,I,v1,M,q,O,λx r f d Q=>?_⟩
 refine⟨x,C,r,n,v1,q,rfl,h,Bv,rfl,?_⟩
 have u:L≠x:=λz=>by have:=B.bs.ob.hL;rw[z,f] at this;cases this
 have R:L≠r:=λz=>by have:=B.bs.ob.hL;rw[z,d] at this;cases this
 refine⟨L,_,.ref x,rfl,rfl,by rw[Bt u,Bt u,Bt R];exact B.bs.ob.hL,by rw[Zc];exact G,?_⟩
 rw[zkq];obtain⟨S,T,U⟩:=B.bs.ob.add B.bs.ss.sub h f d Q J N P rfl
 refine k _ x ⟨⟨B.bs.ss.mono (Same.refl _) T,S,B.bs.hb,B.bs.nb⟩,⟨B.kn.fs,B.kn.new,λb o e=>U b o (B.kn.hs b o e) λz=>?_⟩,λb t=>?_⟩
 ·rw[z,B.fr L (.inl rfl)] at e;cases e
 ·rcases t with t|t
  ·exact B.fr b (.inl t)
  ·rw[Y3] at t;rcases Y6.mp t with t|t
   ·exact B.fr b (.inr t)
   ·have:=Zp.mp t
    rw[this];exact B.kn.hs.free f
end
open PySem L2 PyProof.Rows
def spBo(K:vE)(m:D->D->List (List D)->Prop):Sp:=λn H Q _=>∃F g h l,Same F H/\DenL K F [g,h] n/\m g h l /\
 ∀L e d f,Same f d->KnB H F f d->Obs K f d L e->e.map (·.2)=l->(∀b,Tr L e b->H b=none)->Q (.ref L) d
def yaf(Γ:Nat->∅)(f:D->Addr->D->Prop)(g h:D)(l:Es)(n:Nat)(m:List Addr)(o l1:List (List D)):Prop:=∃e:Nat->List (Addr×List D),(e 0).map (·.1)=m/\(e 0).map (·.2)=o/\(e n).map (·.2)=l1 /\
 ∀k,k<n->∃T a d,(∀p q r,evs Γ l (rhoB (rB g h p q r (some (.int (k:Int)))) 2 (e k))=some [T])/\f T a d/\lf d=true/\a∈(e k).map (·.1)/\e (k+1)=setC (e k) a d
def os_eq{l m:List (Addr×List D)}(d:l.map (·.1)=m.map (·.1))(e:l.map (·.2)=m.map (·.2)):l=m:=by
 apply Ka
 intro i;have a:=congrArg (λz=>z[i]?) d;have b:=congrArg (λz=>z[i]?) e;simp only[Zh] at a b;cases p:l[i]? with
 |none=>rw[p] at a;cases q:m[i]? with
  |none=>rfl
  |some y=>rw[q] at a;cases a
 |some x=>rw[p] at a b;cases q:m[i]? with
  |none=>rw[q] at a;cases a
  |some y=>
   rw[q] at a b;have f:x.1=y.1:=Zw a;have g:x.2=y.2:=Zw b;rw[show x=y from Yh f g]
def ss_sr{K:vE}{F H:Hp}{g:L2.St}{f:RhoS}(S:SS K F H g (view f))(n:∀(i:Nat) l,f[i]? ≠ some (some (.ow l))):SR K H F F H g f:=
 ⟨S.sub,Same.refl _,Same.refl _,λ_ _ e=>.inl e,λi d e=>S.env i d (by unfold view;rw[Zh,e];rfl),λi l e=>absurd e (n i l),λi j l m a e=>absurd e (n i l),by have:=S.len;unfold view at this;rwa [Zc] at this⟩
def FB.read{K:vE}{H0 F0 F H:Hp}{σ:L2.St}{ρ:Rho}{L:Addr}{os:List (Addr×List D)}(B:FB K H0 F0 F H σ ρ L os){d e:Hp}(s:Same (snap F H L os) d)(R:ER K H (snap F H L os) d e σ (rhoB ρ 2 os)):FB K H0 F0 (bare d L os) e σ ρ L os:=by
 obtain⟨f,k⟩:=B.bs.back s R
 exact⟨f,B.kn.step k.fs k.new (B.kn.hs.trans R.same),B.fr⟩
section
variable{P:Program}{w:World}{K:vE}{mg:Str->Option Value}{base:Heap}{Γ:Nat->∅}
def yal{x Y:Str}{W:Stmt}{f:Addr}{fd:FuncData}{k m:Nat}{B N:List (Str×Nat×Nat)}{Z O e3 ln:Expr}{it:It'}{le:E}{s3 sl:Es}{a1 a2 a3 b1 b2 b3 b4 b5 b6 b7 b8 b9 c1 c2 c3 c4 c5 c6 c7 c8 c9 g1 g2 g3 g4 h1 h2:Pos}{bk}{Ψ:D->Addr->D->Prop}{Ξ:D->D->List (List D)->Prop}
 (Fn:Fun K x Y W f fd)(S:FnScope NB ["one","other"] (Bn W))
 (hb:Bq W=[.Assign [.Name "bounds" a1] (.List [] a2) a3,
   .For (.Tuple [.Name "place" b1,.Name "side" b2] bk b3) Z [.Assign [.Name "least" b4] O b5,.Expr (.Call (.Attribute (.Name "bounds" b6) "append" b7) [.Call (.Name "Bound" c1) [.Name "place" c2,.Name "side" c3,.Name "least" c4] [] c5] [] b8) b9] [] c6,
   .For (.Name "k" g1) (.Call (.Name "range" g2) [ln] [] g3) [.Expr (.Call (.Name "set_closing" c7) [e3] [] c8) c9] [] g4,
   .Return (some (.Name "bounds" h1)) h2])
 (a6:(b7.endLine == b8.line)=true)(hl:∀y∈NB,(Bn W).names.lookup y=some .local)
 (ah:trI1 (trE m ⟨NB,Bn W,B,N,true⟩) ⟨NB,Bn W,B,N,true⟩ (.Tuple [.Name "place" b1,.Name "side" b2] bk b3) Z=some it)
 (ai:trE m ⟨NB,Bn W,B,N,true⟩ O=some le)(aj:∀env,swapsWith O (some (.Name "least" b4)) b5.line env=pure false)
 (ak:∀env x,foldedSetIterable Z env x=pure x)
 (am:trEs m ⟨NB,Bn W,B,N,true⟩ [e3]=some s3)(n3:Br e3=true)(an:trEs m ⟨NB,Bn W,B,N,true⟩ [ln]=some sl)(nl:Br ln=true)
 (hg:isGl ⟨NB,Bn W,B,N,true⟩ "set_closing" = true)(ao:isGl ⟨NB,Bn W,B,N,true⟩ "range" = true)(ap:isGl ⟨NB,Bn W,B,N,true⟩ "Bound" = true)(aq:mg "range" = none)
 (G:GSp P w K mg base k "set_closing" (zgq K Ψ))(M:MkB P w K mg base k)(hd:Deps P w K mg base (k+1) Γ B N true)
 (ar:∀h n ls,Ξ h n ls->∃g V,g.length<1000/\evI Γ it [~~~h,~~~n,none,none,none,none,none]=some (g,[~~~h,~~~n,none,none,none,none,none])/\V.length=g.length /\
   (∀(i:Nat) (d:D),g[i]? = some d->∃p s l,d=D.tup [p,s]/\V[i]? = some [p,s,l,.non]/\∀X,ev Γ le (rB h n (some p) (some s) X none)=some (.val l)) /\
   (∀x3 x4 X U,U.length=g.length->evs Γ sl (rhoB (rB h n x3 x4 X none) 2 U)=some [.int (U.length:Int)]) /\
   ∀as,as.Nodup->as.length=g.length->yaf Γ Ψ h n s3 g.length as V ls):
  FnOk P w K mg base CX0 (k+1+1) f fd ["one","other"] (spBo K Ξ):=by
 refine Fn.ok S (λvs H Q E ⟨F,h,n,ls,h1,h2,_⟩=>by rw[h2.length];rfl) (λa7 A outer s H vs Q E hr ⟨F,h,n,ls,h1,h2,h3,h4⟩=>?_);have hX:=zvj (CX:=CX0) (E:=E) (outer:=outer) (H:=H) S hd hr;obtain⟨v0,ax,rfl,q0,h2⟩:=h2.inv_cons
 obtain⟨v1,ay,rfl,q1,h2⟩:=h2.inv_cons
 have:=h2.inv_nil
 subst this;obtain⟨g,V,i1,i2,i3,i4,i5,i6⟩:=ar h n ls h3
 obtain⟨C,fI,az,aA,m1,m2,m3,m4,m5⟩:=M.ex
 rw[hb];have a4:∀y∈NB,Loc (cxOf CX0 P w K mg base NB Y (Bn W) f a7 A outer s H E).nox.env.scope y:=λy hy=>.inl (hl y hy)
 have a5:∀y∈NB,Vis (cxOf CX0 P w K mg base NB Y (Bn W) f a7 A outer s H E).nox.env.scope y:=λy hy=>.inl (hl y hy)
 obtain⟨au,aB⟩:=zem hX.toXE ap
 obtain⟨av,aC⟩:=zem hX.toXE ao
 have nd:=S.nd;have aw:PI (cxOf CX0 P w K mg base NB Y (Bn W) f a7 A outer s H E).nox (.Tuple [.Name "place" b1,.Name "side" b2] bk b3) Z (λσ H R=>∃F,SR K H F F H σ [~~~h,~~~n,none,none,none,none,none]/\∀J H' F',Same F F'->SR K H F F' H' σ [~~~h,~~~n,none,none,none,none,none]->Walks K F' J g->R J H'):=
  λpins s' σ H R I ⟨F,q⟩=>(ygv hX ah i2).1 H F pins s' σ H R I ⟨F,q⟩
 refine⟨_,zak (zkg (i:=2) nd rfl (a4 "bounds" vA) (zxu zgg) rfl (.inr (hl _ vA)))
  (zak (zxm hX.po hX.calm aw (zxt hX.calm (zhe (zil (i:=3) nd rfl (a4 "place" vA) (.inr (hl _ vA))) (zhe (zil (i:=4) nd rfl (a4 "side" vA) (.inr (hl _ vA))) zps)))
   (zak (zkg (i:=5) nd rfl (a4 "least" vA) (ylg hX.toXE ai) (aj _) (.inr (hl _ vA)))
    (zdd (zij (ydq Jm slot_list_append PySem.F.type_list_append zin (zax (i:=2) rfl (a5 "bounds" vA))
     (zct (ylf (E:=E0) m3 m4 hr au m2 m5 .nil ydr (zct (zax (i:=3) rfl (a5 "place" vA)) (zct (zax (i:=4) rfl (a5 "side" vA)) (zct (zax (i:=5) rfl (a5 "least" vA)) zgg)))) zgg) rfl rfl a6 rfl rfl) rfl))) (ak _))
  (zak (zxm hX.po hX.calm (zik av aq (pa_ex hX.toXE an) (Bw nl)) (zil (i:=6) nd rfl (a4 "k" vA) (.inr (hl _ vA))) (zdd (zpq (k:=k) hX.toXE (hr.mono (Ju _)) am n3 hg G)))
  (zdd (zry (zax (i:=2) rfl (a5 "bounds" vA)))))),?_⟩
 refine⟨Yj _,λL hL=>?_⟩
 have aa:F L=none:=h1.free hL;have S0:SS K F (upd H L (.lst [])) [some v0,some v1,some (.ref L),none,none,none,none] (rB h n none none none none):=by
  refine⟨λb o e=>?_,λi d e=>?_,rfl⟩
  ·rw[Bt (λz=>by rw[z,aa] at e;cases e)];exact h1 b o e
  ·match i,e with
   |0,e=>cases e;exact⟨_,rfl,q0⟩
   |1,e=>cases e;exact⟨_,rfl,q1⟩
   |2,e=>cases e
   |3,e=>cases e
   |4,e=>cases e
   |5,e=>cases e
   |6,e=>cases e
   |i+7,e=>cases e
 have B0:FB K H F F (upd H L (.lst [])) [some v0,some v1,some (.ref L),none,none,none,none] (rB h n none none none none) L []:=
  ⟨⟨S0,⟨Bv,aa,(λo ho=>by cases ho),Vy⟩,rfl,rfl⟩,⟨Same.refl _,λ_ _ e=>.inl e,zba hL⟩,λb t=>by
   rcases t with t|t
   ·rw[t];exact hL
   ·cases t⟩
 have R0:SR K (upd H L (.lst [])) F F (upd H L (.lst [])) [some v0,some v1,some (.ref L),none,none,none,none] [~~~h,~~~n,none,none,none,none,none]:=ss_sr S0 (λi l e=>by
  match i,e with
  |0,e=>cases e
  |1,e=>cases e
  |2,e=>cases e
  |3,e=>cases e
  |4,e=>cases e
  |5,e=>cases e
  |6,e=>cases e
  |i+7,e=>cases e)
 refine⟨F,R0,λJ H1 F1 s1 S1 wk=>?_⟩
 have B1:=B0.more s1 S1.sub S1.new S1.same;refine⟨λi m a0 H'=>m=g.length-i/\i<=g.length/\∃F2 U x3 x4 X,Same F1 F2/\FB K H F F2 H' a0 (rB h n x3 x4 X none) L U/\U.map (·.2)=V.take i,⟨_,rfl,Yj _,F1,[],none,none,none,Same.refl _,B1,rfl⟩,?_⟩
 rintro i mm a8 H2 ⟨rfl,aD,F2,U,x3,x4,X,s2,B2,ho⟩
 have ab:=wk i H2 (s2.trans B2.bs.ss.sub);by_cases ae:i<g.length
 ·have hd:=Zi ae;obtain⟨go,yl⟩:=ab.1 _ hd
  obtain⟨p,s,l,e1,e2,e3⟩:=i4 i _ hd
  refine .inr ⟨go,λa0 H'=>∃F2 U x3 x4 X,Same F1 F2/\FB K H F F2 H' a0 (rB h n x3 x4 X none) L U/\U.map (·.2)=V.take (i+1),λa0 H' z=>⟨g.length-(i+1),by omega,rfl,ae,z⟩,λx H' y=>?_⟩;obtain⟨F3,s3,B3,q3⟩:∃F3,Same F2 F3/\FB K H F F3 H' a8 (rB h n x3 x4 X none) L U/\Den K F3 g[i] x:=by
   rcases yl x H' y with⟨e,q⟩|⟨pp,xs,ds,hp,e,ex,ed,q⟩
   ·subst e;exact⟨F2,Same.refl _,B2,q.mono s2⟩
   ·subst e ex;have fp:F2 pp=none:=B2.bs.ss.sub.free hp;have sp:=zba (o:=.tup xs) fp;refine⟨_,sp,B2.more sp (λb o e=>?_) (λb o e=>?_) (zba hp),?_⟩
    ·by_cases z:b=pp
     ·subst z;rw[Bv] at e |-;exact e
     ·rw[Bt z] at e |-;exact B2.bs.ss.sub b o e
    ·by_cases z:b=pp
     ·subst z;exact .inr hp
     ·rw[Bt z] at e;exact .inl e
    ·rw[ed];exact Den.tup_mk (SqT.of Bv) ((q.mono s2).mono sp)
  rw[e1] at q3;obtain⟨a,xs,ex,sq,r⟩:=q3.tup
  obtain⟨u0,r0,rfl,r1,r⟩:=r.inv_cons
  obtain⟨u1,r2,rfl,r3,r⟩:=r.inv_cons
  have:=r.inv_nil
  subst this;refine⟨a,[u0,u1],ex,Same.tup B3.bs.ss.sub sq,rfl,u0,[u1],rfl,u1,[],rfl,rfl,?_⟩
  have B4:FB K H F F3 H' ((a8.set 3 (some u0)).set 4 (some u1)) (rB h n (some p) (some s) X none) L U:=(B3.set (i:=3) (by show 3<7;decide) vA r1).set (i:=4) (by show 4<7;decide) vA r3;refine B4.ex (e3 X) λv H5 F5 s5 B5 q5=>?_;have B6:FB K H F F5 H5 (((a8.set 3 (some u0)).set 4 (some u1)).set 5 (some v)) (rB h n (some p) (some s) (some l) none) L U:=B5.set (i:=5) (by show 5<7;decide) vA q5;have ln:U.length=(V.take i).length:=by rw[<-ho,Zc]
  refine B6.add m1 rfl rfl rfl ?_ λH7 x7 B7=>?_
  ·rw[ln,Ww];exact Yk (Nat.min_le_left _ _) (zwo vB)
  ·refine⟨F5,_,_,_,_,(s2.trans s3).trans s5,B7,?_⟩
   rw[Y3,ho,List.take_succ,e2];rfl
 ·have e:i=g.length:=by omega
  subst e;refine .inl ⟨ab.2 (Zl _),?_⟩;have af:U.map (·.2)=V:=by rw[ho,<-i3,Bg]
  have ln:U.length=g.length:=by rw[<-i3,<-af,Zc]
  refine⟨_,_,_,B2.bs.snap,i5 x3 x4 X U ln,λvs H3 F3 s3 R3 q3=>?_⟩
  obtain⟨u,us,rfl,r1,r⟩:=q3.inv_cons
  have:=r.inv_nil
  subst this;have:=r1.int
  subst this;refine⟨_,rfl,by omega,by omega,?_⟩
  have B3:=B2.read s3 R3;obtain⟨a9,o1,o2,o3,o4⟩:=i6 (U.map (·.1)) B2.bs.ob.nd (by rw[Zc];exact ln)
  have e0:a9 0=U:=os_eq o1 (o2.trans af.symm);rw[Z9,ln];refine zzl (λi a0 H'=>∃F' x6,FB K H F F' H' a0 (rB h n x3 x4 X x6) L (a9 i)) ⟨_,none,by rw[e0];exact B3⟩ (λj ag H4 hj ⟨F4,x6,B4⟩=>?_) (λag H4 ⟨F4,x6,B4⟩=>?_)
  ·obtain⟨T,a,d,t1,t2,t3,t4,t5⟩:=o4 j hj
   have B5:FB K H F F4 H4 (ag.set 6 (some (.int (0+(j:Int))))) (rB h n x3 x4 X (some (.int (j:Int)))) L (a9 j):=by
    rw[Vc];exact B4.set (i:=6) (by show 6<7;decide) vA Den.int_mk
   exact B5.setc (t1 x3 x4 X) t2 t3 t4 λH6 F6 B6=>⟨F6,_,by rw[t5];exact B6⟩
  ·exact⟨_,B4.bs.hb,h4 L _ H4 F4 B4.bs.ss.sub B4.kn B4.bs.ob o3 B4.fr⟩
end
open PySem L2 PyProof.Rows
def rF(d e:D)(f:Option D)(n:Nat):Rho:=some d::some e::none::f::List.replicate n none
def rFs(d e:D)(b k:D)(n:Nat):RhoS:= ~~~d::~~~e::~~~b::~~~k::List.replicate n none
def tTail(Γ:Nat->∅)(K:vE)(g:Ss):TS:=λD h H=>∃F e w,SR K H F F H h e/\exs Γ g e=some (.rt w)/\∀v d f,RT H F f d->RW K H f d w v->D.rt v d
section
variable{X:Cx}{c:TC}{Γ:Nat->∅}
def ydl(g:XC X c Γ){m:Nat}{d:List Stmt}{f:Ss}(h:trSs m c d=some f):PSs X d (tTail Γ X.K f):=λpins s l H D I ⟨F,n,w,S,e,k⟩=>
 (zwc g m).2 _ _ _ _ h e H F pins s l H D I ⟨F,S,k⟩
end
section
variable{K:vE}{H0 F0 F H:Hp}{σ:L2.St}{ρ:Rho}{L:Addr}{os:List (Addr×List D)}{Γ:Nat->∅}
def FB.leave(B:FB K H0 F0 F H σ ρ L os){g f:Hp}{w:W}{v:V}{Q:VK}(T:RT H (snap F H L os) g f)(q:RW K H g f w v)
 (k:∀v f g,Same H0 f->Same F0 g->Same g f->(∀a o,g a=some o->F0 a=some o\/H0 a=none)->RW K H0 g f w v->Q v f):Q v f:=by
 refine k v f g (B.kn.hs.trans T.same) ((B.kn.fs.trans B.bs.ob.same).trans T.base) T.sub (λa o e=>?_) ?_
 ·rcases T.new a o e with z|z
  ·by_cases t:Tr L os a
   ·exact .inr (B.fr a t)
   ·unfold snap at z;rw[if_neg t] at z;exact B.kn.new a o z
  ·exact .inr (B.kn.hs.free z)
 ·cases w with
  |val d=>exact q
  |new l=>
   obtain⟨a,h,e,m,n,p,r⟩:=q
   exact⟨a,h,e,m,B.kn.hs.free n,p,r⟩
def FB.exr(B:FB K H0 F0 F H σ ρ L os){e:E}{d:D}{Q:VK}(h:ev Γ e (rhoB ρ 2 os)=some (.val d))(l:lf d=true)
 (k:∀v f g,FB K H0 F0 g f σ ρ L os->Den K g d v->Q v f):tEx Γ K e σ H Q:=
 ⟨_,_,_,B.bs.snap,h,λv f g s R q=>k v f _ (B.read s R) (Den.shrink (zti B.bs.ob s) d l q)⟩
def FB.exT(B:FB K H0 F0 F H σ ρ L os){e:E}{t:Bool}{Q:Bool->Hp->Prop}(h:((ev Γ e (rhoB ρ 2 os)).map W.d).bind zbg=some t)
 (k:∀f g,FB K H0 F0 g f σ ρ L os->Q t f):tExT Γ K e σ H Q:=
 ⟨_,_,_,B.bs.snap,h,λf g s R=>k f _ (B.read s R)⟩
def FB.drop(B:FB K H0 F0 F H σ ρ L os){r:List (Addr×List D)->Int->List (Addr×List D)->Prop}{m:Int}{f:List (Addr×List D)}{s:E}{d:D}{u:Ends}{E:XK}(w:ρ[3]? = some (some (.int m)))(n:r os m f)(z:∀a∈f.map (·.1),a∈os.map (·.1))
 (A:ev Γ s (rhoB ρ 2 f)=some (.val d))(C:lf d=true)(k:∀g h p,FB K H0 F0 p h g (ρ.set 3 (some d)) L f->u.nx g h):
  tSeq (yci (zpe (zkc K r) [] E (zhz (tVar 2) (zhz (tVar 3) tNil)))) (tAsg (tEx Γ K s) (zzj 3)) u σ H:=by
 obtain⟨v,v1,G⟩:=B.bs.ss.env 3 _ w
 have:=G.int
 subst this;refine⟨_,B.bs.hb,_,v1,F,L,os,m,f,rfl,B.bs.ss.sub,B.bs.ob,n,λI J M l Q N=>?_⟩
 have O:FB K H0 F0 J I σ ρ L f:=⟨⟨B.bs.ss.mono l.fs M,N,B.bs.hb,B.bs.nb⟩,B.kn.step l.fs l.new (λb o e=>l.hs b o (B.kn.hs b o e) λt=>by rw[B.fr b t] at e;cases e),λb t=>B.fr b (t.imp id (z b))⟩;exact O.exr A C λv h p P q=>k _ h p (P.set (zzi w) vA q)
def FB.start{B:D->D->List (List D)->Prop}{p r:V}{f g d:D}{n:Nat}{m:List (List D)}{C:E}{E:XK}{s:Ends}(J:Same F H)(h:DenL K F [f,g] [p,r])(t:B f g m)
 (M:∀os:List (Addr×List D),os.map (·.2)=m->(os.map (·.1)).Nodup->ev Γ C (rhoB (rF f g none n) 2 os)=some (.val d))(N:lf d=true)
 (k:∀l o u L os,os.map (·.2)=m->FB K H F u o l (rF f g (some d) n) L os->s.nx l o):
  tAsg (zpe (spBo K B) [] E (zhz (tVar 0) (zhz (tVar 1) tNil))) (zzj 2) {s with nx:=tAsg (tEx Γ K C) (zzj 3) s} (some p::some r::none::none::List.replicate n none) H:=by
 refine⟨_,rfl,_,rfl,F,f,g,m,J,h,t,λL os O P Q w G I R=>?_⟩
 obtain⟨Y,S,z,T,h⟩:=h.inv_cons
 cases z;obtain⟨Z,S,z,U,h⟩:=h.inv_cons
 cases z;have W:FB K H F P O (some p::some r::some (.ref L)::none::List.replicate n none) (rF f g none n) L os:=by
  refine⟨⟨⟨Q,λi d e=>?_,by simp[rF]⟩,G,rfl,rfl⟩,w,R⟩
  match i,e with
  |0,e=>cases e;exact⟨_,rfl,T.mono w.fs⟩
  |1,e=>cases e;exact⟨_,rfl,U.mono w.fs⟩
  |2,e=>cases e
  |3,e=>cases e
  |i+4,e=>
   have A:(List.replicate n (none:Option D))[i]? = some (some d):=e;rw[Wl] at A;split at A<;>cases A
 exact W.exr (M os I G.nd) N λv o u X q=>k _ o u L os I (X.set (i:=3) (by simp[rF]) vA q)
def FB.tail{f g h:D}{n:Nat}{bs:Ss}{w:W}{Q:VK}{t:Ends}(B:FB K H0 F0 F H σ (rF f g (some h) n) L os)(u:exs Γ bs (rFs f g (.lst (dOs os)) h n)=some (.rt w))(r:t.rt=Q)
 (k:∀v m p,Same H0 m->Same F0 p->Same p m->(∀a o,p a=some o->F0 a=some o\/H0 a=none)->RW K H0 p m w v->Q v m):tTail Γ K bs t σ H:=by
 refine⟨snap F H L os,rFs f g (.lst (dOs os)) h n,w,ss_sr ?_ ?_,u,λv m p T q=>?_⟩
 ·have:=B.bs.snap
  have e:view (rFs f g (.lst (dOs os)) h n)=rhoB (rF f g (some h) n) 2 os:=by
   unfold view rFs rhoB rF;simp[DL.B.d]
  rw[e];exact this
 ·intro i l e;match i,e with
  |0,e=>cases e
  |1,e=>cases e
  |2,e=>cases e
  |3,e=>cases e
  |i+4,e=>
   have s:(List.replicate n (none:Option DL.B))[i]? = some (some (.ow l)):=e;rw[Wl] at s;split at s<;>cases s
 ·rw[r];exact B.leave T q k
end
open PySem L2 PyProof.Rows
def yhi{P:Program}{w:World}{K:vE}{mg:Str->Option Value}{base:Heap}{Γ:Nat->∅}{X:Cx}{c:TC}{k:Nat}{g x y:Str}{i j:Nat}{sp:Sp}{p e f h:Pos}(d:XE X c Γ)(l:Room k X.A)(m:isGl c g=true)(G:GSp X.prog X.w X.K X.mg X.base k g sp)
 (n:slot c x=some i)(o:slot c y=some j):PE X (.Call (.Name g p) [.Name x e,.Name y f] [] h) (zpe sp [] E0 (zhz (tVar i) (zhz (tVar j) tNil))):=by
 obtain⟨a,M,ps,q,r,s,t⟩:=G
 obtain⟨u,v⟩:=zem d m
 obtain⟨z,B,C,F⟩:=zau d n
 obtain⟨H,I,J,L⟩:=zau d o
 exact zpt (E:=E0) q l u r s t .nil ydr (zct (zax z (DL.Loc.vis B) C F) (zct (zax H (DL.Loc.vis I) J L) zgg)) v
structure Lps(Γ:Nat->∅)(Θ:List (Addr×List D)->Int->List (Addr×List D)->Prop)(d0 d1:D)(n:Nat)(ke:E)(oss:Nat->List (Addr×List D))(ks:Nat->Int)(t:Nat):Prop where
 ke:∀j,j<=t->∀x3,ev Γ ke (rhoB (rF d0 d1 x3 n) 2 (oss j))=some (.val (.int (ks j)))
 th:∀j,j<t->Θ (oss j) (ks j) (oss (j+1))
 sb:∀j,j<t->∀a∈(oss (j+1)).map (·.1),a∈(oss j).map (·.1)
section
variable{P:Program}{w:World}{K:vE}{mg:Str->Option Value}{base:Heap}{Γ:Nat->∅}
end
open PySem L2 PyProof.Rows
section
variable{P:Program}{w:World}{K:vE}{mg:Str->Option Value}{base:Heap}{Γ:Nat->∅}
def zmm(Γ:Nat->∅)(r:D->D->List (List D)->Prop)(s:List (Addr×List D)->Int->List (Addr×List D)->Prop)(n:Nat)(o u ee:E)(v:Ss)(g h:D)(p:W):Prop:=
 ∃m q,r g h m/\(∀f:List (Addr×List D),f.map (·.2)=m->(f.map (·.1)).Nodup->ev Γ o (rhoB (rF g h none n) 2 f)=some (.val (.int q))) /\
 ∀f:List (Addr×List D),f.map (·.2)=m->(f.map (·.1)).Nodup->∃e l t fin,e 0=f/\l 0=q/\Lps Γ s g h n o e l t /\
  (∀j,j<=t->((ev Γ u (rhoB (rF g h (some (.int (l j))) n) 2 (e j))).map W.d).bind zbg=some (decide (j<t) || fin)) /\
  (∀j,j<=t->(j<t\/fin=true)->((ev Γ ee (rhoB (rF g h (some (.int (l j))) n) 2 (e j))).map W.d).bind zbg=some (!decide (j<t))) /\
  (if fin=true then p=.new [] else exs Γ v (rFs g h (.lst (dOs (e t))) (.int (l t)) n)=some (.rt p))
def zxh{x I:Str}{h:Stmt}{f:Addr}{fd:FuncData}{k m n:Nat}{d e:List (Str×Nat×Nat)}{N:List Str}{C o J M:Expr}{ke te ee:E}{ss:List Stmt}{bs:Ss}{a1 a2 a3 a4 a5 a6 b1 b2 c1 c2 c3 c4 c5 g1 g2 g3 i1 i2 i3:Pos}{Θ:List (Addr×List D)->Int->List (Addr×List D)->Prop}{Ξ:D->D->List (List D)->Prop}{φ:∅}
 (Fn:Fun K x I h f fd)(S:FnScope N ["one","other"] (Bn h))(a7:N.length=n+4)
 (hb:Bq h = .Assign [.Name "bounds" a1] (.Call (.Name "bounds_of" a2) [.Name "one" a3,.Name "other" a4] [] a5) a6 :: .Assign [.Name "k" b1] C b2 ::
   .While J [.If M [.Return (some (.List [] i1)) i2] [] i3,.Expr (.Call (.Name "drop" c1) [.Name "bounds" c2,.Name "k" c3] [] c4) c5,.Assign [.Name "k" g1] o g2] [] g3::ss)
 (a8:slot ⟨N,Bn h,d,e,true⟩ "one" = some 0)(a9:slot ⟨N,Bn h,d,e,true⟩ "other" = some 1)(O:slot ⟨N,Bn h,d,e,true⟩ "bounds" = some 2)(R:slot ⟨N,Bn h,d,e,true⟩ "k" = some 3)
 (aa:trE m ⟨N,Bn h,d,e,true⟩ C=some ke)(T:trE m ⟨N,Bn h,d,e,true⟩ o=some ke)(ab:trT m ⟨N,Bn h,d,e,true⟩ J=some te)(ae:trT m ⟨N,Bn h,d,e,true⟩ M=some ee)(af:trSs m ⟨N,Bn h,d,e,true⟩ ss=some bs)
 (U:∀env,swapsWith C (some (.Name "k" b1)) b2.line env=pure false)(V:∀env,swapsWith o (some (.Name "k" g1)) g2.line env=pure false)
 (ag:isGl ⟨N,Bn h,d,e,true⟩ "bounds_of" = true)(ah:isGl ⟨N,Bn h,d,e,true⟩ "drop" = true)
 (G1:GSp P w K mg base k "bounds_of" (spBo K Ξ))(G2:GSp P w K mg base k "drop" (zkc K Θ))(hd:Deps P w K mg base k Γ d e true)
 (ai:∀q r wv,φ [q,r]=some wv->zmm Γ Ξ Θ n ke te ee bs q r wv):FnOk P w K mg base CX0 (k+1) f fd ["one","other"] (spD K 2 φ):=by
 refine Fn.ok S (λvs H Q E ⟨Fz,ds,w,h1,h2,h3,h4,h5⟩=>by rw[h2.length];exact h3) (λap A outer s H vs Q E hr ⟨F,ds,wv,h1,h2,h3,h4,h5⟩=>?_);have u:=zvj (CX:=CX0) (E:=E) (outer:=outer) (H:=H) S hd hr;obtain⟨q,r,rfl⟩:∃q r,ds=[q,r]:=by
  match ds,h3 with
  |[q,r],_=>exact⟨q,r,rfl⟩
 obtain⟨ls,k0,r1,r2,r3⟩:=ai q r wv h4
 obtain⟨v0,aq,rfl,q0,t2⟩:=h2.inv_cons
 obtain⟨v1,ar,rfl,q1,t3⟩:=t2.inv_cons
 have:=t3.inv_nil
 subst this;have aj:L2.start N [v0,v1]=some v0::some v1::none::none::List.replicate n none:=by
  unfold L2.start;rw[a7];show some v0::some v1::List.replicate (n+2) none=_;rw[Gp,Gp]
 obtain⟨ak,am,as,au⟩:=zau u.toXE O
 obtain⟨X,Y,av,aw⟩:=zau u.toXE R
 rw[hb];have nd:=S.nd;refine⟨_,zak (zkg (i:=2) nd ak am (yhi (P:=P) (w:=w) (K:=K) (mg:=mg) (base:=base) u.toXE hr ag G1 a8 a9) rfl (.inl rfl)) (zak (zkg (i:=3) nd X Y (ylg u.toXE aa) (U _) (.inl rfl))
  (zak (zrx u.po (pt_ex u.toXE ab) (zak (ykz (pt_ex u.toXE ae) (zdd (zry (zxu zgg))) zxk) (zak (zij (yhi (P:=P) (w:=w) (K:=K) (mg:=mg) (base:=base) u.toXE hr ah G2 O R) rfl) (zdd (zkg (i:=3) nd X Y (ylg u.toXE T) (V _) (.inl rfl)))))) (ydl u af))),?_⟩
 rw[aj];refine FB.start (n:=n) h1 h2 r1 r2 rfl λax H2 F2 L os eo B=>?_;obtain⟨Z,ks,t,an,o1,o2,lp,ao,a0,tl⟩:=r3 os eo B.bs.ob.nd
 subst o1 o2;refine⟨λmm l G=>∃F' j,mm=t-j/\j<=t/\FB K H F F' G l (rF q r (some (.int (ks j))) n) L (Z j),⟨t,F2,0,rfl,Yj _,B⟩,?_⟩
 rintro mm ay H3 ⟨F3,j,rfl,hj,B3⟩
 refine B3.exT (ao j hj) λH4 F4 B4=>?_;by_cases g:j<t
 ·rw[decide_eq_true g,Bool.true_or];refine iteT ⟨λl G=>∃F',FB K H F F' G l (rF q r (some (.int (ks (j+1)))) n) L (Z (j+1)),λl G ⟨F',B'⟩=>⟨t-(j+1),by omega,F',j+1,rfl,g,B'⟩,?_⟩;refine B4.exT (a0 j hj (.inl g)) λH5 F5 v=>?_;rw[decide_eq_true g];refine iteF ?_;exact v.drop (E:=E0) rfl (lp.th j g) (lp.sb j g) (lp.ke (j+1) g _) rfl λaz H6 F6 B6=>⟨F6,B6⟩
 ·have ej:j=t:=by omega
  subst ej;rw[decide_eq_false g,Bool.false_or];cases an with
  |true=>
   refine iteT ⟨λl G=>False,λl G z=>z.elim,?_⟩;refine B4.exT (a0 j hj (.inr rfl)) λH5 F5 v=>?_;rw[decide_eq_false g];refine iteT ?_;rw[if_pos rfl] at tl;subst tl;refine⟨Yj _,λp hp=>?_⟩
   have fp:F5 p=none:=v.bs.ss.sub.free hp;exact h5 _ _ F5 (v.kn.hs.trans (zba hp)) v.kn.fs (v.bs.ss.sub.trans (zba hp)) v.kn.new ⟨p,[],rfl,fp,v.kn.hs.free hp,Bv,DenL.nil⟩
  |false=>
   rw[if_neg vA] at tl;exact iteF (B4.tail tl rfl h5)
end
open PySem L2 PyProof.Rows
section
variable{P:Program}{w:World}{K:vE}{mg:Str->Option Value}{base:Heap}{Γ:Nat->∅}
def zso{h:Heap}{x:Str}{d:Stmt}{e:List Str}{k:Nat}{sp:Sp}(A:At K x d)(X:K.In h)(G:h.Ns mainGlobals mg)(B:Bnd x d e)(F:∀f g,Fun K x x d f g->FnOk P w K mg base CX0 k f g e sp):GSp P w K mg base k x sp:=by
 obtain⟨f,r,s,kV,o,t,u,p,v,q,a,l,c,m⟩:=A
 have n:=zsr (st:=d) l c m;exact⟨f,_,e,F _ _ n,Ug X G a,m,n.binds B⟩
def ymr{h:Heap}{x:Str}{d:Stmt}{e:List Str}{k n:Nat}{g:∅}(A:At K x d)(X:K.In h)(G:h.Ns mainGlobals mg)(B:Bnd x d e)(F:∀f l,Fun K x x d f l->FnOk P w K mg base CX0 k f l e (spD K n g)):GFn P w K mg base k x n g:=zso A X G B F
def SetSh(f:Stmt)(c:TC)(m:Nat)(g:Ss)(h:E)(l:Nat):Prop:=∃e mid d n o p,Bq f=e++[.Assign [.Attribute (.Name mid n) "closing" o] d p]/\trSs m c e=some g/\trE m c d=some h/\slot c mid=some l/\zfc d=false
def ymp{h:Heap}{x p:Str}{g:Stmt}{N:List Str}{k m r:Nat}{n o:List (Str×Nat×Nat)}{s:Ss}{t:E}{u:D->Addr->D->Prop}(A:At K x g)(X:K.In h)(G:h.Ns mainGlobals mg)(S:FnScope N [p] (Bn g))(B:Bnd x g [p])
 (v:SetSh g ⟨N,Bn g,n,o,true⟩ m s t r)(z:Deps P w K mg base k Γ n o true)
 (q:∀T a d,u T a d->∃e l,exs Γ s ([~~~T]++List.replicate (N.length-1) none)=some (.nx e)/\(view e)[r]? = some (some (.obj a l))/\ev Γ t (view e)=some (.val d)):GSp P w K mg base (k+1) x (zgq K u):=by
 obtain⟨O,mid,value,Q,R,U,C,F,H,I,J⟩:=v
 exact zso A X G B λf V L=>set_ok L S C F H I (λM=>zim J) z q
def yil(d:Stmt):Prop:=∃e f g h l m n o p q r s t u v w z,Bq d=[.Assign [.Attribute (.Name "self" e) "place" f] (.Name "place" g) h,.Assign [.Attribute (.Name "self" l) "side" m] (.Name "side" n) o,.Assign [.Attribute (.Name "self" p) "least" q] (.Name "least" r) s,.Assign [.Attribute (.Name "self" t) "closing" u] (.Constant .none z v) w]
def AtC(K:vE)(e:Stmt):Prop:=∃(C f:Addr) (l:Value) (m:Option Addr) (kV g n:Value) (o:Option Addr) (d p:Value) (h:Array (Option Value)),PySem.W.nsIn K mainGlobals "Bound" = some (some (.ref C))/\Cls K C/\(NoAttr K C "place" /\ NoAttr K C "side" /\ NoAttr K C "least" /\ NoAttr K C "closing")/\Mk K C f /\
 K.lookup f=some ⟨l,m,.func (PySem.W.fnOf "__init__" "Bound.__init__" (zbj e) (Bq e) (Bn e) .none kV g n o d p),h⟩/\PySem.W.codeIn K d "Bound.__init__" = true/\PySem.W.keepIn K (.ref f)=true
def AtC.bf{e:Stmt}(A:AtC K e):BFacts K:=by
 obtain⟨C,f,p,q,kV,h,r,s,l,t,m,n,o,⟨u,v,w,z⟩,_⟩:=A
 refine⟨C,n,o,λg d=>?_⟩
 simp only[flds,Zg,Zu,or_false] at d;rcases d with rfl|rfl|rfl|rfl<;>assumption
def mkb_at{h:Heap}{d:Stmt}{k:Nat}(A:AtC K d)(X:K.In h)(G:h.Ns mainGlobals mg)(S:FnScope ["self","place","side","least"] ["self","place","side","least"] (Bn d))
 (B:∀(kV g n:Value) (o:Option Addr) (l ct:Value) (m:List Value),m.length=4->bindArgs (PySem.W.fnOf "__init__" "Bound.__init__" (zbj d) (Bq d) (Bn d) .none kV g n o l ct) ⟨m,[]⟩=pure ((["self","place","side","least"]:List Str).zip m))
 (r:yil d)(s:∀y∈(["self","place","side","least"]:List Str),(Bn d).names.lookup y=some .local):MkB P w K mg base (k+1):=by
 have bf:=A.bf;obtain⟨C,f,E,F,kV,g,n,o,l,ct,t,p,H,I,u,v,z,D⟩:=A
 obtain⟨J,L,M,N,O,Q,R,T,U,V,Y,Z,d1,d2,d3,d4,kn,e⟩:=r
 have q:=zsr (st:=d) v z D;exact⟨C,f,_,_,p,Ug X G p,u,ymo (k:=k) q S e s bf,q.binds B⟩
def yim(h:Stmt)(c:TC)(m:Nat)(l n:Es):Prop:=∃d e p o q r f g s t u v w,Bq h=[.Expr (.Call (.Attribute (.Name "bounds" p) "pop" f) [.Name "k" o] [] g) s,.Expr (.Call (.Name "set_closing" q) [d] [] t) v,.Expr (.Call (.Name "set_closing" r) [e] [] u) w] /\
 (f.endLine == g.line)=true/\trEs m c [d]=some l/\trEs m c [e]=some n/\Br d=true/\Br e=true/\isGl c "set_closing" = true
def BoSh(r:Stmt)(c:TC)(m:Nat)(s:It')(t:E)(u v:Es):Prop:=∃e d f g w z A h l n B C D o p F G H I J K L M N O P Q g3 R S T q,Bq r=[.Assign [.Name "bounds" w] (.List [] z) A,
   .For (.Tuple [.Name "place" h,.Name "side" l] q n) e [.Assign [.Name "least" B] d C,.Expr (.Call (.Attribute (.Name "bounds" D) "append" o) [.Call (.Name "Bound" G) [.Name "place" H,.Name "side" I,.Name "least" J] [] K] [] p) F] [] L,
   .For (.Name "k" P) (.Call (.Name "range" Q) [g] [] g3) [.Expr (.Call (.Name "set_closing" M) [f] [] N) O] [] R,
   .Return (some (.Name "bounds" S)) T]/\(o.endLine == p.line)=true/\trI1 (trE m c) c (.Tuple [.Name "place" h,.Name "side" l] q n) e=some s/\trE m c d=some t/\zfc d=false/\zyw e=false/\trEs m c [f]=some u/\Br f=true/\trEs m c [g]=some v/\Br g=true /\
   isGl c "set_closing" = true/\isGl c "range" = true/\isGl c "Bound" = true
def yez{h:Heap}{x:Str}{e:Stmt}{k m:Nat}{l o:List (Str×Nat×Nat)}{C E:Es}{t:D->Addr->D->Prop}{F:List (Addr×List D)->Int->List (Addr×List D)->Prop}(A:At K x e)(X:K.In h)(G:h.Ns mainGlobals mg)(S:FnScope ["bounds","k"] ["bounds","k"] (Bn e))(B:Bnd x e ["bounds","k"])
 (J:∀y∈(["bounds","k"]:List Str),(Bn e).names.lookup y=some .local)(L:yim e ⟨["bounds","k"],Bn e,l,o,true⟩ m C E)(M:GSp P w K mg base k "set_closing" (zgq K t))(N:Deps P w K mg base k Γ l o true)
 (u:∀d g q,F d g q -> -(2^63)<=g/\g<2^63/\∃n H r s I v z,seqIndex? g d.length=some n/\n<d.length /\
   evs Γ C [some (.lst (dOs (d.eraseIdx n))),some (.int g)]=some [H]/\t H r s/\lf s=true/\r∈(d.eraseIdx n).map (·.1) /\
   evs Γ E [some (.lst (dOs (setC (d.eraseIdx n) r s))),some (.int g)]=some [I]/\t I v z/\lf z=true/\v∈(d.eraseIdx n).map (·.1)/\q=setC (setC (d.eraseIdx n) r s) v z):GSp P w K mg base (k+1) x (zkc K F):=by
 obtain⟨Z,e2,p,p1,p2,p3,ap,cp,ep,c1,c2,q1,q2,O,Q,R,T,U,V,W⟩:=L
 exact zso A X G B λf fd Y=>yno Y S O Q J R T U V W M N u
def gbo_at{h:Heap}{x:Str}{n:Stmt}{k m:Nat}{r t:List (Str×Nat×Nat)}{Q:It'}{R:E}{T U:Es}{V:D->Addr->D->Prop}{W:D->D->List (List D)->Prop}(A:At K x n)(X:K.In h)(G:h.Ns mainGlobals mg)(S:FnScope NB ["one","other"] (Bn n))(B:Bnd x n ["one","other"])
 (Z:∀y∈NB,(Bn n).names.lookup y=some .local)(sh:BoSh n ⟨NB,Bn n,r,t,true⟩ m Q R T U)(v:mg "range" = none)(Gs:GSp P w K mg base k "set_closing" (zgq K V))(M:MkB P w K mg base k)(hd:Deps P w K mg base (k+1) Γ r t true)
 (z:∀o q Y,W o q Y->∃e g,e.length<1000/\evI Γ Q [~~~o,~~~q,none,none,none,none,none]=some (e,[~~~o,~~~q,none,none,none,none,none])/\g.length=e.length /\
   (∀(i:Nat) (d:D),e[i]? = some d->∃p s l,d=D.tup [p,s]/\g[i]? = some [p,s,l,.non]/\∀C,ev Γ R (rB o q (some p) (some s) C none)=some (.val l)) /\
   (∀x3 x4 C F,F.length=e.length->evs Γ U (rhoB (rB o q x3 x4 C none) 2 F)=some [.int (F.length:Int)]) /\
   ∀H,H.Nodup->H.length=e.length->yaf Γ V o q T e.length H g Y):GSp P w K mg base (k+1+1) x (spBo K W):=by
 obtain⟨iter,u,e3,ln,a1,a2,a3,b1,b2,b3,b4,b5,b6,b7,b8,b9,c1,c2,c3,c4,c5,c6,c7,c8,c9,g1,g2,g3,g4,h1,h2,bk,q1,q2,q3,q4,q5,q6,q7,q8,q9,I,J,L,N⟩:=sh
 exact zso A X G B λf fd Fn=>yal Fn S q1 q2 Z q3 q4 (λO=>zim q5) (λO x=>ylv q6 x) q7 q8 q9 I J L N v Gs M hd z
end
open PySem L2 PyProof.Rows
section
variable{P:Program}{w:World}{K:vE}{mg:Str->Option Value}{base:Heap}{Γ:Nat->∅}
def yij(n:Stmt)(c:TC)(m:Nat)(h o ee:E)(p:Ss):Prop:=∃e d f g l q r s t u v w z A B C D F G H g3 I J K,Bq n = .Assign [.Name "bounds" q] (.Call (.Name "bounds_of" r) [.Name "one" s,.Name "other" t] [] u) v :: .Assign [.Name "k" w] e z ::
   .While f [.If g [.Return (some (.List [] I)) J] [] K,.Expr (.Call (.Name "drop" A) [.Name "bounds" B,.Name "k" C] [] D) F,.Assign [.Name "k" G] d H] [] g3::l/\slot c "one" = some 0/\slot c "other" = some 1/\slot c "bounds" = some 2/\slot c "k" = some 3/\trE m c e=some h/\trE m c d=some h/\trT m c f=some o/\trT m c g=some ee/\trSs m c l=some p/\zfc e=false/\zfc d=false/\isGl c "bounds_of" = true/\isGl c "drop" = true
def yew{h:Heap}{x:Str}{d:Stmt}{N:List Str}{k m n:Nat}{e g:List (Str×Nat×Nat)}{v z ee:E}{C:Ss}{F:List (Addr×List D)->Int->List (Addr×List D)->Prop}{H:D->D->List (List D)->Prop}{I:∅}(A:At K x d)(X:K.In h)(G:h.Ns mainGlobals mg)(S:FnScope N ["one","other"] (Bn d))(l:N.length=n+4)(B:Bnd x d ["one","other"])
 (Q:yij d ⟨N,Bn d,e,g,true⟩ m v z ee C)(R:GSp P w K mg base k "bounds_of" (spBo K H))(T:GSp P w K mg base k "drop" (zkc K F))(U:Deps P w K mg base k Γ e g true)
 (o:∀J L M,I [J,L]=some M->zmm Γ H F n v z ee C J L M):GFn P w K mg base (k+1) x 2 I:=by
 obtain⟨V,O,Y,Z,ss,a1,a2,a3,a4,a5,a6,b1,b2,c1,c2,c3,c4,c5,g1,g2,g3,i1,i2,i3,q1,q2,q3,q4,q5,q6,q7,q8,q9,p,q,r,s,t⟩:=Q
 exact ymr A X G B λf fd Fn=>zxh Fn S l q1 q2 q3 q4 q5 q6 q7 q8 q9 p (λu=>zim q) (λu=>zim r) s t R T U o
end
end DL
namespace DL
open Sf
def fr(x:Rat):D:=.tup [.int x.num,.int (x.den:Int)]
def ixf0{z:Rat}:ixD (fr z) (.int 0)=some (.int z.num):=rfl
def ixf1{z:Rat}:ixD (fr z) (.int 1)=some (.int (z.den:Int)):=rfl
def lff{z:Rat}:lf (fr z)=true:=rfl
local macro_rules | `(tactic| walk_at "evh")=>do
 let l ← ("run_eq ymv yfb ycg ycf ex_asg asgO_s ex_unp unpO_s ex_par parO_s ex_ret retO_s ymy ykn ykm ex_iff iffO_t iffO_f ex_whl ex_frr forO_s ynk yka yjz yjy zus ykf yfe ynm yli ylj evB_eq ev_var ev_int ev_bl ev_non ev_bin ev_neg ev_cmp ev_and ev_or ev_not ev_tup ev_lst ev_ix ev_sl yne ev_bi ev_isx isxW_n ymw ex_app appO_s ymx yju ev_fm zty blkR id_eq yar yaq zch setE_0 setE_s ynd ync yng yfc yfd seqB_l seqB_t seqB_o seqD zzo zsv ynb yna evd evb bin2_s un1_s andO_t andO_f orO_t orO_f appL_s ynw slO_s cmpW ixW negW notW_s tupW lstW varD_0 varD_s ybo zvq setR_0 setR_s ygc ygb zfz ypc ypd ypb after lfW lf lfL Wd_v Wd_n Wb_v Wb_n Bd_s Bd_o DL.op_add DL.op_sub DL.op_mul DL.op_fdiv DL.op_mod zaw zls zcd zag op_p4 op_p5 op_p6 op_p9 op_p10 op_p18 eqL eqD dOkL dOk beq_self_eq_true Bool.and_self op_p30 op_p60 op_p64 Int.reduceEq Int.reduceLT Int.reduceLE Int.reduceNeg Int.reduceAdd Int.reduceSub Int.reduceMul Int.reduceToNat Int.reducePow Int.reduceMod Int.reduceDiv cs0 cs1 cs2 cs3 cs4 cs5 cs6 cs7 cs8 cs9 cs10 cs11 cs12 Nat.reduceSub cm_lt cm_le cm_gt cm_ge cm_eq cm_ne cm_eqB cm_neB cm_eqT cm_neT cm_eqL cm_neL cm_in yie cm_isN yog biW lenW absW minW maxW ixD_t ixD_l ixf0 ixf1 lff slD_l yns yaa isTy zoa Zx Wh List.cons_append List.nil_append Qm Zr Q4 Qs We List.set_cons_zero List.set_cons_succ W4 Option.map_none Yg Uz List.replicate if_true if_false Nat.reduceAdd Nat.reduceLT Nat.reduceLeDiff Wf reduceCtorEq decide_true decide_false Bool.not_true Bool.not_false Bool.and_true Bool.true_and Bool.and_false Bool.false_and ne_eq not_false_eq_true and_self and_true true_and Nat.reduceEqDiff Nat.zero_ne_one Nat.one_ne_zero sl0 sl1 sl2 sl3 sl4 sl5 sl6 sl7 sl8 sl9 at1_0 at2_0 at2_1 at3_0 at3_1 at3_2 at4_0 at4_1 at4_2 at4_3 at5_0 at5_1 at5_2 at5_3 at5_4 at6_0 at6_1 at6_2 at6_3 at6_4 at6_5 ev_fld fldO_s ev_ife ynj ynf zipO sqD ev_idx ynh evW_range1".splitOn " ").toArray.mapM λs=>`(Lean.Parser.Tactic.simpLemma| $(Lean.mkIdent s.toName):term)
 `(tactic| simp only[$l,*, *])
open Sf
def dTup:D->Option (List D)
 |.tup l=>some l
 |_=>none
def dTwo:List D->Option (D×D)
 |[a,b]=>some (a,b)
 |_=>none
def dTup_s{d:D}{l:List D}(h:dTup d=some l):d=.tup l:=by cases d<;>first|(cases h;rfl)|(cases h;done)
def dTwo_s{l:List D}{p:D×D}(h:dTwo l=some p):l=[p.1,p.2]:=by
 cases l with
 |nil=>cases h
 |cons a l=>
  cases l with
  |nil=>cases h
  |cons b l=>
   cases l with
   |nil=>cases h;rfl
   |cons _ _=>cases h
def asFr(d:D):Option Rat:=(dTup d).bind λl=>(dTwo l).bind λz=>(dInt z.1).bind λp=>(dInt z.2).bind λq=>if 0<q/\Int.gcd p q=1 then some (Rat.divInt p q) else none
def yoy(x:Rat):asFr (fr x)=some x:=by
 have f:=zcv x;show(if 0<(x.den:Int)/\Int.gcd x.num (x.den:Int)=1 then some (Rat.divInt x.num (x.den:Int)) else none)=some x;rw[if_pos ⟨f.pos,f.co⟩,Yo]
def zos{d:D}{x:Rat}(h:asFr d=some x):d=fr x:=by
 obtain⟨l,e,h⟩:=Za.mp h
 obtain⟨z,f,h⟩:=Za.mp h
 obtain⟨p,g,h⟩:=Za.mp h
 obtain⟨q,m,h⟩:=Za.mp h
 split at h
 ·rename_i y;cases h;obtain⟨a,b⟩:=rat_of ⟨y.1,y.2⟩
  rw[dTup_s e,dTwo_s f,zdj g,zdj m];unfold fr;rw[a,b]
 ·cases h
def okR(x:Rat):Bool:=decide (x.num.natAbs<2^4400) && decide (x.den<2^4400)
def yhm{n:Nat}{x:Rat}(h:Sz n x)(k:n<=4400):okR x=true:=by
 have:=h.mono k
 unfold okR;rw[Zk];exact⟨decide_eq_true this.t,decide_eq_true this.b⟩
def yhl{x:Rat}(h:okR x=true):Sz 4400 x:=by
 unfold okR at h;rw[Zk] at h;exact⟨of_decide_eq_true h.1,of_decide_eq_true h.2⟩
def Bu{a b:Int}{m n:Nat}(d:a.natAbs<2^m)(e:b.natAbs<2^n)(f:m<=16000)(g:n<=16000):Bz a b=true:=by
 unfold Bz;rw[Zk];exact⟨decide_eq_true (Zf d (Bx f)),decide_eq_true (Zf e (Bx g))⟩
def zby{b:Int}{n:Nat}(d:b≠0)(e:b.natAbs<2^n)(f:n<=9000):zbu b=true:=by
 unfold zbu;rw[Zk];exact⟨decide_eq_true d,decide_eq_true (Zf e (Bx f))⟩
section
variable{Γ:Nat->∅}
def zan:∅
 |[.int a,.int b]=>some (.val (.int (gc a b)))
 |_=>none
def zvp(a b:Option B):∀(m:Nat) (n:Nat),n<=m->∀(g:Int) (r:Option B),0<=g->∃f,zar (evB Γ (.cmp .ne (.var 3) (.int 0))) (exs Γ #v[.asg 4 (.bin .mod (.var 2) (.var 3)),.asg 2 (.var 3),.asg 3 (.var 4)]) (m+1)
  [a,b,~~~.int g,~~~.int (n:Int),r]=some (.nx [a,b,~~~.int (gc g n),~~~.int 0,f]):=by
 intro m;induction m with
 |zero=>
  intro n o g r h;obtain rfl:n=0:=by omega
  refine⟨r,?_⟩
  unfold zar;walk_at "evh"
  simp[zlo h]
 |succ m p=>
  intro n o g r h;unfold zar;walk_at "evh"
  by_cases s:n=0
  ·subst s;refine⟨r,?_⟩
   simp[zlo h]
  ·have d:¬((n:Int)=0):=by omega
   simp only[d,decide_false,Bool.not_false,if_false];walk_at "evh"
   have e:g.fmod (n:Int)=((g%(n:Int)).toNat:Int):=by
    rw[Kc _ vB];have:=W9 g d
    omega
   have l:(g%(n:Int)).toNat<=m:=by
    have:=Ks g (show(0:Int)<n by omega)
    have:=W9 g d
    omega
   obtain⟨f,q⟩:=p _ l (n:Int) (~~~.int ((g%(n:Int)).toNat:Int)) vB
   refine⟨f,?_⟩
   rw[e,q];have t:(((g%(n:Int)).toNat:Nat):Int)=g%n:=by have:=W9 g d;omega
   rw[t,zqf]
def zhm(b:Int):(if b<0 then -b else b)=((b.natAbs:Nat):Int):=by split<;>omega
def ok_divisor:∀d w,d.length=2->zan d=some w->run Γ zjl 5 d=some w:=by
 intro d w _ h;unfold zan at h;split at h
 ·rename_i a b _;cases h;unfold zjl;walk_at "evh"
  obtain⟨e,q⟩:=zvp (Γ:=Γ) (~~~.int a) (~~~.int b) b.natAbs b.natAbs (Zl _) (if a<0 then -a else a) none (by split<;>omega)
  rw[zhm b,zeq q];walk_at "evh"
  rw[<-zhm b,yhs]
 ·cases h
def zkn:∀(m:Nat) (n:Nat),n<=m->∀(g:Int),0<=g->zar (evB Γ (.cmp .gt (.var 1) (.int 0))) (exs Γ #v[.par 0 1 (.var 1) (.bin .mod (.var 0) (.var 1))]) (m+1)
  [~~~.int g,~~~.int (n:Int)]=some (.nx [~~~.int (gc g n),~~~.int 0]):=by
 intro m;induction m with
 |zero=>
  intro n o g f;obtain rfl:n=0:=by omega
  unfold zar;walk_at "evh"
  simp[zlo f]
 |succ m p=>
  intro n o g f;unfold zar;walk_at "evh"
  by_cases r:n=0
  ·subst r;simp[zlo f]
  ·have d:¬((n:Int)=0):=by omega
   have s:(0:Int)<n:=by omega
   simp only[d,s,decide_true,if_false];walk_at "evh"
   have e:g.fmod (n:Int)=((g%(n:Int)).toNat:Int):=by
    rw[Kc _ vB];have:=W9 g d
    omega
   have l:(g%(n:Int)).toNat<=m:=by
    have:=Ks g (show(0:Int)<n by omega)
    have:=W9 g d
    omega
   have q:=p _ l (n:Int) vB;have h:(((g%(n:Int)).toNat:Nat):Int)=g%n:=by have:=W9 g d;omega
   rw[h] at q;first
    |(rw[e,h,q,zqf])
    |(rw[q,zqf])
def ok_law_divisor:∀d w,d.length=2->zan d=some w->run Γ zcz 2 d=some w:=by
 intro d w _ h;unfold zan at h;split at h
 ·rename_i a b _;cases h;unfold zcz;walk_at "evh"
  have q:=zkn (Γ:=Γ) b.natAbs b.natAbs (Zl _) (if a<0 then -a else a) (by split<;>omega);rw[zhm b,zeq q];walk_at "evh"
  rw[<-zhm b,yhs]
 ·cases h
end
set_option exponentiation.threshold 20000
open Sf
def zdr{a b:Int}:zan [.int a,.int b]=some (.val (.int (gc a b))):=rfl
section
variable{Γ:Nat->∅}
def zgh:∅
 |[.int t,.int b]=>if b≠0/\b.natAbs<2^9000 then some (.val (fr (Rat.divInt t b))) else none
 |_=>none
def ymt{t b:Int}(h:b≠0):(gc t b).natAbs<=b.natAbs:=by
 have:=Wi t b
 exact zam this h
def zsx{t b:Int}(h:b≠0)(d:b.natAbs<2^9000):zbu (gc t b)=true/\zbu (-(gc t b))=true:=by
 have p:=zgl (a:=t) h;have l:=ymt (t:=t) h;exact⟨zby (n:=9000) vB vB (Zl _),zby (n:=9000) vB (by rw[Jn];omega) (Zl _)⟩
def yhu{t b:Int}(h:b≠0):fr (Rat.divInt t b)=.tup [.int (low1 t b),.int (low2 t b)]:=by
 obtain⟨a,c⟩:=ymi (t:=t) h
 unfold fr;rw[a,c]
def ok_ratio(f:Γ 0=zan):∀d w,d.length=2->zgh d=some w->run Γ zqx 3 d=some w:=by
 intro d w _ h;unfold zgh at h;split at h
 ·rename_i t b _;split at h
  ·rename_i z;cases h;unfold zqx;walk_at "evh"
   try simp only[z.1,decide_false]
   try walk_at "evh"
   simp only[f,zdr];walk_at "evh"
   obtain⟨g,l⟩:=zsx (t:=t) z.1 z.2
   rw[yhu z.1];unfold low1 low2 by_;by_cases e:b<0
   ·simp only[e,decide_true];walk_at "evh"
    try simp only[l]
    try walk_at "evh"
   ·simp only[e,decide_false];walk_at "evh"
    try simp only[g]
    try walk_at "evh"
  ·cases h
 ·cases h
def fr2(C:Rat->Rat->Bool)(g:Rat->Rat->D):∅
 |[a,b]=>match asFr a,asFr b with
  |some x,some y=>if C x y=true then some (.val (g x y)) else none
  |_,_=>none
 |_=>none
def zcw{C:Rat->Rat->Bool}{g:Rat->Rat->D}{d:List D}{w:W}(h:fr2 C g d=some w):∃x y,d=[fr x,fr y]/\C x y=true/\w=.val (g x y):=by
 unfold fr2 at h;split at h
 ·split at h
  ·rename_i x y e f;split at h
   ·rename_i z;cases h;exact⟨x,y,by rw[zos e,zos f],z,rfl⟩
   ·cases h
  ·cases h
 ·cases h
def zal{C:Rat->Rat->Bool}{g:Rat->Rat->D}{x y:Rat}(h:C x y=true):fr2 C g [fr x,fr y]=some (.val (g x y)):=by
 unfold fr2;simp only[yoy,h,if_true]
def okRR(x y:Rat):Bool:=okR x && okR y
def zaa{m n:Nat}{x y:Rat}(d:Sz m x)(e:Sz n y)(f:m<=4400)(g:n<=4400):okRR x y=true:=by
 unfold okRR;rw[yhm d f,yhm e g];rfl
def zek{x y:Rat}(h:okRR x y=true):Sz 4400 x/\Sz 4400 y:=by
 unfold okRR at h;rw[Zk] at h;exact⟨yhl h.1,yhl h.2⟩
def zde:∅:=fr2 okRR λx y=>fr (x+y)
def zav:∅:=fr2 okRR λx y=>fr (x-y)
def zae:∅:=fr2 okRR λx y=>fr (x*y)
def zlk:∅:=fr2 (λx y=>okRR x y && decide (y≠0)) λx y=>fr (x/y)
def zgi:∅:=fr2 okRR λx y=>.bl (decide (x<y))
def den_pos(x:Rat):(0:Int)<x.den:=(zcv x).pos
def ok_plus(C:Γ 0=zan):∀g w,g.length=2->zde g=some w->run Γ ybc 5 g=some w:=by
 intro g w _ h;obtain⟨x,y,rfl,o,rfl⟩:=zcw h
 obtain⟨sx,sy⟩:=zek o
 have r:=den_pos x;have u:=den_pos y;have f:(y.den:Int)≠0:=by omega
 have l:=zgl (a:=(x.den:Int)) f;have v:=ymt (t:=(x.den:Int)) f;have D:((y.den:Int)).natAbs=y.den:=Yp _;have E:zbu (gc x.den y.den)=true:=zby (n:=4400) vB (by have:=sy.b;omega) vA;have e:∀{p s:Int},0<s->(p.fdiv s).natAbs<=p.natAbs:=λ{p s} z=>by
  rw[Vz _ (Qe z)];have:=Int.natAbs_ediv_le_natAbs p s
  exact this
 have l1:=e (p:=(y.den:Int)) l;have l2:=e (p:=(x.den:Int)) l;have F:((x.den:Int)).natAbs=x.den:=Yp _;have G:Bz x.num ((y.den:Int).fdiv (gc x.den y.den))=true:=Bu sx.t (n:=4400) (by have:=sy.b;omega) vA vA;have H:Bz y.num ((x.den:Int).fdiv (gc x.den y.den))=true:=Bu sy.t (n:=4400) (by have:=sx.b;omega) vA vA;have d:gc (x.den:Int) y.den≠0:=by omega
 have q:=zgl (a:=addT x.num x.den y.num y.den) d;have A:=ymt (t:=addT x.num x.den y.num y.den) d;have I:zbu (gc (addT x.num x.den y.num y.den) (gc x.den y.den))=true:=zby (n:=4400) vB (by have:=sy.b;omega) vA;have B:=e (p:=(y.den:Int)) q;have J:Bz ((x.den:Int).fdiv (gc x.den y.den)) ((y.den:Int).fdiv (gc (addT x.num x.den y.num y.den) (gc x.den y.den)))=true:=Bu (m:=4400) (n:=4400) (by have:=sx.b;omega) (by have:=sy.b;omega) vA vA;obtain⟨K,L⟩:=ype x y
 have M:x.num*(y.den:Int).fdiv (gc x.den y.den)+y.num*(x.den:Int).fdiv (gc x.den y.den)=addT x.num x.den y.num y.den:=rfl;have N:=@zdr;clear o h r u sx sy f l v d q A l1 l2 B e;unfold ybc;simp only[fr];walk_at "evh"
 rfl
def ok_minus(f:Γ 9=zde):∀d w,d.length=2->zav d=some w->run Γ zqy 2 d=some w:=by
 intro d w _ h;obtain⟨x,y,rfl,g,rfl⟩:=zcw h
 obtain⟨sx,sy⟩:=zek g
 unfold zqy;simp only[fr];walk_at "evh"
 have e:(D.tup [.int (-y.num),.int (y.den:Int)])=fr (-y):=rfl;have l:(D.tup [.int x.num,.int (x.den:Int)])=fr x:=rfl;have q:zde [fr x,fr (-y)]=some (.val (fr (x + -y))):=zal (zaa sx sy.neg (Zl _) (Zl _));simp only[f,e,l,q];walk_at "evh"
 rw[Je];rfl
def ok_times(f:Γ 1=zgh):∀d w,d.length=2->zae d=some w->run Γ zqw 2 d=some w:=by
 intro d w _ h;obtain⟨x,y,rfl,g,rfl⟩:=zcw h
 obtain⟨sx,sy⟩:=zek g
 have r:=den_pos x;have s:=den_pos y;have l:Bz x.num y.num=true:=Bu sx.t sy.t vA vA;have o:Bz (x.den:Int) y.den=true:=Bu (m:=4400) (n:=4400) (by rw[Yp];exact sx.b) (by rw[Yp];exact sy.b) vA vA;have p:((x.den:Int)*y.den).natAbs<2^9000:=by
  rw[Yb,Yp,Yp];exact Zf (zay sx.b sy.b) (Bx vA)
 have e:(x.den:Int)*y.den≠0:=Yc vB vB;unfold zqw;simp only[fr];walk_at "evh"
 try simp only[l,o]
 try walk_at "evh"
 have q:zgh [.int (x.num*y.num),.int ((x.den:Int)*y.den)]=some (.val (fr (x*y))):=by
  show(if _ then _ else _)=_;rw[if_pos ⟨e,p⟩,<-zpx]
 simp only[f,q];walk_at "evh"
 rfl
end
set_option exponentiation.threshold 20000
open Sf
section
variable{Γ:Nat->∅}
def isInt:D->Bool
 |.int _=>true
 |_=>false
end
set_option exponentiation.threshold 20000
open Sf
section
variable{Γ:Nat->∅}
def zat{a b:Int}{m n:Nat}(h:a.natAbs<2^m)(k:b.natAbs<2^n):(a*b).natAbs<2^(m+n):=by
 rw[Yb];exact zay h k
end
set_option exponentiation.threshold 20000
open Sf
section
variable{Γ:Nat->∅}
end
open Sf
section
variable{Γ:Nat->∅}
def per(c:Int):Int:=match (c%4).toNat with
 |0=>1
 |1=>3
 |2=>1000000000
 |_=>1000000000000000000
end
open Sf
section
variable{Γ:Nat->∅}
end
open Sf
section
variable{Γ:Nat->∅}
end
open Sf
section
variable{Γ:Nat->∅}
def Bs{x:Rat}{n:Nat}(h:Sz n x):((x.den:Int)).natAbs<2^n:=by rw[Yp];exact h.b
def yei(x y:Rat):decide (x<y)=decide (x.num*(y.den:Int)<y.num*(x.den:Int)):=by
 rw[K9];simp only[decide_eq_true_eq];exact Rat.lt_iff x y
def num_zero{y:Rat}:y.num=0↔y=0:=Rat.num_eq_zero
def ok_over(o:Γ 1=zgh):∀d w,d.length=2->zlk d=some w->run Γ ybd 2 d=some w:=by
 intro d w _ h;obtain⟨x,y,e,f,n⟩:=zcw h
 subst e;subst n;rw[Zk] at f;obtain⟨sx,sy⟩:=zek f.1
 have g:y≠0:=of_decide_eq_true f.2;have l:y.num≠0:=λz=>g (num_zero.mp z)
 have p:Bz x.num (y.den:Int)=true:=Bu sx.t (Bs sy) vA vA;have q:Bz (x.den:Int) y.num=true:=Bu (Bs sx) sy.t vA vA;have m:(x.den:Int)*y.num≠0:=λz=>by
  rcases Vu.mp z with z|z
  ·have:=den_pos x;omega
  ·exact l z
 have r:zgh [.int (x.num*y.den),.int (x.den*y.num)]=some (.val (fr (x/y))):=by
  unfold zgh;simp only
  rw[if_pos ⟨m,by rw[Yb];exact Zf (zay (Bs sx) sy.t) (Bx vA)⟩,zzr g]
 clear sx sy f m l g h;unfold ybd;walk_at "evh"
def ydt:∀d w,d.length=2->zgi d=some w->run Γ zgb 2 d=some w:=by
 intro d w _ h;obtain⟨x,y,e,f,g⟩:=zcw h
 subst e;subst g;obtain⟨sx,sy⟩:=zek f
 have l:Bz x.num (y.den:Int)=true:=Bu sx.t (Bs sy) vA vA;have m:Bz y.num (x.den:Int)=true:=Bu sy.t (Bs sx) vA vA;rw[yei];clear sx sy f h;unfold zgb;walk_at "evh"
end
open Sf
section
variable{Γ:Nat->∅}
def ybe{d:Type}{l:List d}{i:Int}(e:0<=i)(f:i<l.length):L2.atI l i=l[i.toNat]?:=by
 unfold L2.atI L2.ixN;rw[if_pos e,if_pos f,Yg]
end
open Sf
section
variable{Γ:Nat->∅}
end
open Sf
section
variable{Γ:Nat->∅}
end
open Sf
def stD(q:Rat×Rat):D:=.tup [fr q.1,fr q.2]
def lf_stD(q:Rat×Rat):lf (stD q)=true:=rfl
theorem zcu:∀l:List (Rat×Rat),lfL (l.map stD)=true
 |[]=>rfl
 |p::l=>by rw[Zx];unfold lfL;rw[lf_stD,zcu l];rfl
section
variable{Γ:Nat->∅}
end
open Sf
mutual
theorem zlu:∀(n:Nat) (d:D),dOk n d=true->eqD d d=true
 |_,.non,_=>rfl
 |_,.bl b,_=>by simp only[eqD,beq_self_eq_true]
 |_,.int i,_=>by simp[eqD]
 |0,.tup l,h=>by simp only[dOk] at h;cases h
 |n+1,.tup l,h=>by
  simp only[dOk] at h;simp only[eqD];exact eqL_self n l h
 |0,.lst l,h=>by simp only[dOk] at h;cases h
 |n+1,.lst l,h=>by
  simp only[dOk] at h;simp only[eqD];exact eqL_self n l h
 |_,.exc x,h=>by simp only[dOk] at h;cases h
theorem eqL_self:∀(n:Nat) (l:List D),dOkL n l=true->eqL l l=true
 |_,[],_=>by simp only[eqL]
 |n,d::l,h=>by
  simp only[dOkL,Zk] at h;simp only[eqL,Zk];exact⟨zlu n d h.1,eqL_self n l h.2⟩
end
theorem zoi:∀l:List (Rat×Rat),dOkL 49 (l.map stD)=true
 |[]=>rfl
 |q::l=>by
  rw[Zx];unfold dOkL;rw[zoi l];rfl
def SzL(n:Nat)(l:List (Rat×Rat)):Prop:=∀q∈l,Sz n q.1/\Sz n q.2
section
variable{Γ:Nat->∅}
def zio:∅:=run (tab [(11,zae)]) zjj 2
def ok_sized(e:Γ 11=zae):∀d w,d.length=2->zio d=some w->run Γ zjj 2 d=some w:=λd w _ h=>zcb [(11,zae)] (by intro p f;rcases Zp.mp f with rfl;exact e) vA d w h
def zmw{l:List (Rat×Rat)}{x:Rat}(p:l.length<=1000)(e:SzL 2000 l)(f:Sz 2000 x)(h:0<x.num):zio [.lst (l.map stD),fr x]=some (.new ((l.map λq=>(q.1*x,q.2*x)).map stD)):=by
 unfold zio;generalize d:tab [(11,zae)]=Γ;have u:Γ 11=zae:=by rw[<-d];rfl
 have r:decide (x.num<=0)=false:=decide_eq_false vB;have m:ev Γ (.comp (.tup #v[.call 11 #v[.var 1,.var 3],.call 11 #v[.var 2,.var 3]]) (.tup [1,2]) (.seqV 0) 3 [1] .non) [some (.lst (l.map stD)),some (fr x)]=some (.new (l.map λq=>stD (q.1*x,q.2*x))):=by
  refine zce (g:=stD) ?_ (by rw[Qk];omega) rfl λq n=>?_
  ·clear e f h r d;walk_at "evh"
  ·have v:zae [fr q.1,fr x]=some (.val (fr (q.1*x))):=zal (zaa (e q n).1 f vA vA);have w:zae [fr q.2,fr x]=some (.val (fr (q.2*x))):=zal (zaa (e q n).2 f vA vA);have s:stD (q.1*x,q.2*x)=.tup [fr (q.1*x),fr (q.2*x)]:=rfl;have t:stD q=.tup [fr q.1,fr q.2]:=rfl;rw[s,t];clear e f h r d n s t p;walk_at "evh"
 rw[Ye];show run Γ zjj 2 _=some (.new (l.map λq=>stD (q.1*x,q.2*x)));generalize (l.map λq=>stD (q.1*x,q.2*x))=O at *;unfold zjj;generalize o:E.comp _ _ _ _ _ _=z at *;clear e f h d p o;walk_at "evh"
end
open Sf
section
variable{Γ:Nat->∅}
end
open Sf
theorem zst{n:D->RhoS->Option RhoS}{o:RhoS->Option Out}{I:RhoS->Prop}:∀(l:List D),(∀d∈l,∀e,I e->∃m f,n d e=some m/\o m=some (.nx f)/\I f)->∀e,I e->∃g,forN n o l e=some (.nx g)/\I g
 |[],_,e,h=>⟨e,rfl,h⟩
 |d::l,p,e,h=>by
  obtain⟨m,f,q,r,s⟩:=p d (.head _) e h
  obtain⟨g,t,u⟩:=zst l (λx v=>p x (.tail _ v)) f s
  refine⟨g,?_,u⟩
  unfold forN;rw[q];simp only
  rw[r];exact t
abbrev H3:=Int×Int×Int
def hD(h:H3):D:=.tup [.int h.1,.int h.2.1,.int h.2.2]
structure HB(n:Nat)(h:H3):Prop where
 a:h.1.natAbs<2^n
 b:h.2.1.natAbs<2^n
 c:h.2.2.natAbs<2^n
def oR(a b c:Rat×Rat):Rat:=(b.1-a.1)*(c.2-a.2)-(b.2-a.2)*(c.1-a.1)
def ltR(a b:Rat×Rat):Prop:=a.1<b.1\/(a.1=b.1/\a.2<b.2)
def cast_pos{i:Int}:(0:Rat)<(i:Rat)↔0<i:=by
 rw[show(0:Rat)=((0:Int):Rat) from rfl,Z6]
def zse(x:Rat):(x.num:Rat)=x*((x.den:Int):Rat):=by
 have d:=cast_pos.mpr (den_pos x);have h:((x.den:Int):Rat)≠0:=λz=>by rw[z] at d;exact absurd d vA
 have e:x=(x.num:Rat)/((x.den:Int):Rat):=by
  conv=>lhs;rw[<-V3 x,Rat.mkRat_eq_div]
  rw[Gz]
 have f:x*((x.den:Int):Rat)=(x.num:Rat)/((x.den:Int):Rat)*((x.den:Int):Rat):=by
  conv=>lhs;lhs;rw[e]
 rw[f,G9 h]
section
variable{Γ:Nat->∅}
structure IsShp(l:List (Rat×Rat)):Prop where
 three:3<=l.length
 first:∀k q0 q,l[0]? = some q0->l[k+1]? = some q->ltR q0 q
 conv:∀k a b c,l[(k+l.length-1)%l.length]? = some a->l[k]? = some b->c∈l->c≠a->c≠b->0<oR a b c
end
open Sf
section
variable{Γ:Nat->∅}
end
open Sf
section
variable{Γ:Nat->∅}
end
open Sf
def cut_to{l:List D}{a:Nat}(h:a<=l.length):cutD l none (some (a:Int))=l.take a:=by
 unfold cutD;rw[HT.sIx_none,HT.sIx_nat,List.drop_zero,Nat.sub_zero,Ub h]
def ztb{l:List D}{a:Nat}(h:a<=l.length):cutD l (some (a:Int)) none=l.drop a:=by
 unfold cutD;rw[HT.sIx_none,HT.sIx_nat,Ub h,V9 (by rw[Ys];exact Zl _)]
section
variable{Γ Γ':Nat->∅}
end
open Sf
def t3(a b c:Rat):H3:=(a.num*((b.den:Int)*(c.den:Int)),b.num*((a.den:Int)*(c.den:Int)),c.num*((a.den:Int)*(b.den:Int)))
def g3(t:H3):Int:=gc (gc (gc 0 t.1) t.2.1) t.2.2
def low3(a b c:Rat):H3:=((t3 a b c).1.fdiv (g3 (t3 a b c)),(t3 a b c).2.1.fdiv (g3 (t3 a b c)),(t3 a b c).2.2.fdiv (g3 (t3 a b c)))
def zsq(t:H3):g3 t∣t.1/\g3 t∣t.2.1/\g3 t∣t.2.2:=by
 unfold g3 gc;have d:=Qx (a:=((Int.gcd (Int.gcd 0 t.1:Int) t.2.1:Nat):Int)) (b:=t.2.2);have e:=Qx (a:=((Int.gcd 0 t.1:Nat):Int)) (b:=t.2.1);have f:=Wi (a:=0) (b:=t.1);have g:=Wi (a:=((Int.gcd 0 t.1:Nat):Int)) (b:=t.2.1);have h:=Wi (a:=((Int.gcd (Int.gcd 0 t.1:Int) t.2.1:Nat):Int)) (b:=t.2.2);exact⟨Wr d (Wr e f),Wr d g,h⟩
def dvd_g3{t:H3}{d:Int}(e:d∣t.1)(f:d∣t.2.1)(g:d∣t.2.2):d∣g3 t:=by
 unfold g3 gc;exact Jc (Jc (Jc (Int.dvd_zero d) e) f) g
def yht{t:H3}(h:t.1≠0\/t.2.1≠0\/t.2.2≠0):0<g3 t:=by
 have o:0<=g3 t:=Yv _;have p:g3 t≠0:=λe=>by
  obtain⟨d,f,g⟩:=zsq t
  rw[e] at d f g;have l:=Gi.mp d;have m:=Gi.mp f;have n:=Gi.mp g;rcases h with h|h|h
  ·exact h l
  ·exact h m
  ·exact h n
 omega
structure Low3(a b c:Rat)(t:H3):Prop where
 co:gc (gc t.1 t.2.1) t.2.2=1
 scale:∃k:Rat,0<k/\(t.1:Rat)=k*a/\(t.2.1:Rat)=k*b/\(t.2.2:Rat)=k*c
def zlm{a b c:Rat}(h:a≠0\/b≠0):Low3 a b c (low3 a b c):=by
 have v:=den_pos a;have w:=den_pos b;have B:=den_pos c;have n:(t3 a b c).1≠0\/(t3 a b c).2.1≠0\/(t3 a b c).2.2≠0:=by
  rcases h with h|h
  ·left
   exact Yc (λe=>h (num_zero.mp e)) (Yc vB vB)
  ·right;left
   exact Yc (λe=>h (num_zero.mp e)) (Yc vB vB)
 have C:=yht n;obtain⟨⟨x,o⟩,⟨y,p⟩,⟨z,r⟩⟩:=zsq (t3 a b c)
 have D:(t3 a b c).1.fdiv (g3 (t3 a b c))=x:=by
  conv=>lhs;lhs;rw[o]
  exact Z3 _ vB
 have E:(t3 a b c).2.1.fdiv (g3 (t3 a b c))=y:=by
  conv=>lhs;lhs;rw[p]
  exact Z3 _ vB
 have F:(t3 a b c).2.2.fdiv (g3 (t3 a b c))=z:=by
  conv=>lhs;lhs;rw[r]
  exact Z3 _ vB
 unfold low3;rw[D,E,F];generalize G:g3 (t3 a b c)=g at *;refine⟨?_,?_⟩
 ·have H:0<=gc (gc x y) z:=gc_nn _ _;have I:gc (gc x y) z∣z:=Wi _ _;have t:gc (gc x y) z∣gc x y:=Qx _ _;have J:gc (gc x y) z∣x:=Wr t (Qx _ _);have K:gc (gc x y) z∣y:=Wr t (Wi _ _);simp only
  generalize gc (gc x y) z=d at *;have u:g*d∣g3 (t3 a b c):=dvd_g3 (by rw[o];exact Ui g J) (by rw[p];exact Ui g K) (by rw[r];exact Ui g I);rw[G] at u;obtain⟨k,L⟩:=u
  have:d*k=1:=by
   apply Int.eq_of_mul_eq_mul_left (show g≠0 by omega)
   rw[<-Uv,<-L,Up]
  exact Int.eq_one_of_mul_eq_one_right H this
 ·have s:(0:Rat)<(g:Rat):=cast_pos.mpr C;have gi:=Jt.mpr s;have f:(g:Rat)≠0:=λe=>by rw[e] at s;exact absurd s vA
  have A:=cast_pos.mpr v;have M:=cast_pos.mpr w;have N:=cast_pos.mpr B;refine⟨((a.den:Int):Rat)*((b.den:Int):Rat)*((c.den:Int):Rat)*(g:Rat)⁻¹,Zq (Zq (Zq A M) N) gi,?_,?_,?_⟩
  ·have q:((t3 a b c).1:Rat)=(g:Rat)*(x:Rat):=by rw[o,Z4]
   have l:((t3 a b c).1:Rat)=a*((a.den:Int):Rat)*(((b.den:Int):Rat)*((c.den:Int):Rat)):=by
    unfold t3;simp only[Z4];rw[zse a]
   have m:(x:Rat)=(g:Rat)⁻¹*((g:Rat)*(x:Rat)):=by rw[<-K4,Kr _ f,Ja]
   simp only
   rw[m,<-q,l];grind
  ·have q:((t3 a b c).2.1:Rat)=(g:Rat)*(y:Rat):=by rw[p,Z4]
   have l:((t3 a b c).2.1:Rat)=b*((b.den:Int):Rat)*(((a.den:Int):Rat)*((c.den:Int):Rat)):=by
    unfold t3;simp only[Z4];rw[zse b]
   have m:(y:Rat)=(g:Rat)⁻¹*((g:Rat)*(y:Rat)):=by rw[<-K4,Kr _ f,Ja]
   simp only
   rw[m,<-q,l];grind
  ·have q:((t3 a b c).2.2:Rat)=(g:Rat)*(z:Rat):=by rw[r,Z4]
   have l:((t3 a b c).2.2:Rat)=c*((c.den:Int):Rat)*(((a.den:Int):Rat)*((b.den:Int):Rat)):=by
    unfold t3;simp only[Z4];rw[zse c]
   have m:(z:Rat)=(g:Rat)⁻¹*((g:Rat)*(z:Rat)):=by rw[<-K4,Kr _ f,Ja]
   simp only
   rw[m,<-q,l];grind
def t3_bd{n:Nat}{a b c:Rat}(d:Sz n a)(e:Sz n b)(f:Sz n c):HB (n+(n+n)) (t3 a b c):=
 ⟨zat d.t (zat (Bs e) (Bs f)),zat e.t (zat (Bs d) (Bs f)),zat f.t (zat (Bs d) (Bs e))⟩
section
variable{Γ:Nat->∅}
def zqb:∅:=run (tab [(0,zan)]) zbc 6
def ok_lowest_whole(e:Γ 0=zan):∀d w,d.length=1->zqb d=some w->run Γ zbc 6 d=some w:=λd w _ h=>zcb [(0,zan)] (by intro p f;rcases Zp.mp f with rfl;exact e) vA d w h
def zqh{x d y:Int}(f:d≠0)(e:x=d*y):x.fdiv d=y:=by rw[e];exact Z3 _ f
abbrev cLw:E:=(.comp (.bin .mul (.ix (.var 1) (.int 0)) (.bin .fdiv (.var 2) (.ix (.var 1) (.int 1)))) (.name 1) (.seqV 0) 2 [1] .non)
abbrev fLw:E:=(.fm .tupl #v[.comp (.bin .fdiv (.var 1) (.var 2)) (.name 1) (.seqV 3) 2 [4] .non])
def yem(A:Γ 0=zan){h l m:D}{a b c n o p g:Int}{O:D}(C:ixD h (.int 1)=some (.int a))(F:ixD l (.int 1)=some (.int b))(G:ixD m (.int 1)=some (.int c))(H:lf h=true)(I:lf l=true)(J:lf m=true)(K:Bz 1 a=true)(L:1*a=a)(M:Bz a b=true)(N:Bz (a*b) c=true)
 (s:∀x y u v,ev Γ cLw [some (.tup [h,l,m]),some (.int (a*b*c)),x,y,u,v]=some (.new [.int n,.int o,.int p]))(t:∀x y z u,ev Γ fLw [x,y,z,some (.lst [.int n,.int o,.int p]),some (.int g),u]=some (.val O))(P:gc (gc (gc 0 n) o) p=g):run Γ zbc 6 [.tup [h,l,m]]=some (.val O):=by
 have w:∀a b c d e f:Option B,frz [a,b,c,d,e,f]=[a.map λx=>.sh x.d,b.map λx=>.sh x.d,c.map λx=>.sh x.d,d.map λx=>.sh x.d,e.map λx=>.sh x.d,f.map λx=>.sh x.d]:=λ_ _ _ _ _ _=>rfl
 have Q:=@zdr;unfold zbc;unfold cLw at s;unfold fLw at t;generalize q:E.comp (.bin .mul (.ix (.var 1) (.int 0)) (.bin .fdiv (.var 2) (.ix (.var 1) (.int 1)))) (.name 1) (.seqV 0) 2 [1] .non=R at *;generalize r:E.fm .tupl _=S at *;clear q r;walk_at "evh"
 unfold forN;walk_at "evh"
 unfold forN;walk_at "evh"
 unfold forN;walk_at "evh"
 unfold forN;walk_at "evh"
 unfold forN;walk_at "evh"
 unfold forN;walk_at "evh"
 unfold forN;walk_at "evh"
 unfold forN;walk_at "evh"
def yen{n:Nat}{a b c:Rat}(d:Sz n a)(f:Sz n b)(q:Sz n c)(R:n<=1000)(r:a≠0\/b≠0):zqb [.tup [fr a,fr b,fr c]]=some (.val (hD (low3 a b c))):=by
 unfold zqb;generalize s:tab [(0,zan)]=Γ;have L:Γ 0=zan:=by rw[<-s];rfl
 have G:=den_pos a;have H:=den_pos b;have I:=den_pos c;have w:=t3_bd d f q;have o:(t3 a b c).1≠0\/(t3 a b c).2.1≠0\/(t3 a b c).2.2≠0:=by
  rcases r with h|h
  ·left
   exact Yc (λe=>h (num_zero.mp e)) (Yc vB vB)
  ·right;left
   exact Yc (λe=>h (num_zero.mp e)) (Yc vB vB)
 have J:=yht o;have B:(g3 (t3 a b c)).natAbs<2^(n+(n+n)):=by
  obtain⟨M,N,O⟩:=zsq (t3 a b c)
  rcases o with h|h|h
  ·exact Yk (zam M h) w.a
  ·exact Yk (zam N h) w.b
  ·exact Yk (zam O h) w.c
 have C:Bz 1 (a.den:Int)=true:=Bu (n:=n) (m:=1) vA (Bs d) vA vB;have D:(1:Int)*(a.den:Int)=a.den:=Vs _;have E:Bz (a.den:Int) (b.den:Int)=true:=Bu (Bs d) (Bs f) vB vB;have F:Bz ((a.den:Int)*(b.den:Int)) (c.den:Int)=true:=Bu (zat (Bs d) (Bs f)) (Bs q) vB vB;have o1:zbu (a.den:Int)=true:=zby vB (Bs d) vB;have o2:zbu (b.den:Int)=true:=zby vB (Bs f) vB;have o3:zbu (c.den:Int)=true:=zby vB (Bs q) vB;have o4:zbu (g3 (t3 a b c))=true:=zby vB B vB;have S:((a.den:Int)*(b.den:Int)*(c.den:Int)).fdiv (a.den:Int)=(b.den:Int)*(c.den:Int):=zqh vB (by rw[Uv]);have T:((a.den:Int)*(b.den:Int)*(c.den:Int)).fdiv (b.den:Int)=(a.den:Int)*(c.den:Int):=zqh vB (by rw[Qu (a.den:Int) (b.den:Int),Uv]);have U:((a.den:Int)*(b.den:Int)*(c.den:Int)).fdiv (c.den:Int)=(a.den:Int)*(b.den:Int):=zqh vB (by rw[Qu]);have V:Bz a.num ((b.den:Int)*(c.den:Int))=true:=Bu d.t (zat (Bs f) (Bs q)) vB vB;have W:Bz b.num ((a.den:Int)*(c.den:Int))=true:=Bu f.t (zat (Bs d) (Bs q)) vB vB;have X:Bz c.num ((a.den:Int)*(b.den:Int))=true:=Bu q.t (zat (Bs d) (Bs f)) vB vB;have K:∀x y u v,ev Γ (.comp (.bin .mul (.ix (.var 1) (.int 0)) (.bin .fdiv (.var 2) (.ix (.var 1) (.int 1)))) (.name 1) (.seqV 0) 2 [1] .non) [some (.tup [fr a,fr b,fr c]),some (.int ((a.den:Int)*(b.den:Int)*(c.den:Int))),x,y,u,v]=some (.new [.int (t3 a b c).1,.int (t3 a b c).2.1,.int (t3 a b c).2.2]):=by
  intro x y u v;have:=zce (Γ:=Γ) (ρ:=[some (.tup [fr a,fr b,fr c]),some (.int ((a.den:Int)*(b.den:Int)*(c.den:Int))),x,y,u,v]) (elt:=.bin .mul (.ix (.var 1) (.int 0)) (.bin .fdiv (.var 2) (.ix (.var 1) (.int 1)))) (t:=.name 1) (it:=.seqV 0) (nt:=2) (fr:=[1]) (c:=.non) (l:=[(a,(t3 a b c).1),(b,(t3 a b c).2.1),(c,(t3 a b c).2.2)]) (g:=λp=>fr p.1) (h:=λp=>.int p.2) (by rfl) (by show 3<=PySem.sizeLine;decide) rfl (λp A=>?_)
  ·exact this
  ·simp only[Zg,Zu,or_false] at A;clear w o J B C E F o4 d f q G H I r s D;rcases A with rfl|rfl|rfl<;>unfold t3<;>walk_at "evh"
 have P:∀x y z u,ev Γ (.fm .tupl #v[.comp (.bin .fdiv (.var 1) (.var 2)) (.name 1) (.seqV 3) 2 [4] .non]) [x,y,z,some (.lst [.int (t3 a b c).1,.int (t3 a b c).2.1,.int (t3 a b c).2.2]),some (.int (g3 (t3 a b c))),u]=some (.val (hD (low3 a b c))):=by
  intro x y z u;have:=zce (Γ:=Γ) (ρ:=[x,y,z,some (.lst [.int (t3 a b c).1,.int (t3 a b c).2.1,.int (t3 a b c).2.2]),some (.int (g3 (t3 a b c))),u]) (elt:=.bin .fdiv (.var 1) (.var 2)) (t:=.name 1) (it:=.seqV 3) (nt:=2) (fr:=[4]) (c:=.non) (l:=[(t3 a b c).1,(t3 a b c).2.1,(t3 a b c).2.2]) (g:=λp=>.int p) (h:=λp=>.int (p.fdiv (g3 (t3 a b c)))) (by rfl) (by show 3<=PySem.sizeLine;decide) rfl (λp A=>by
    clear A w o J B C E F d f q G H I r s K D;walk_at "evh")
  rw[ev_fm,zsv,zzo];unfold evd;rw[this];rfl
 have Q:gc (gc (gc 0 (t3 a b c).1) (t3 a b c).2.1) (t3 a b c).2.2=g3 (t3 a b c):=rfl;exact yem L ixf1 ixf1 ixf1 lff lff lff C D E F K P Q
end
open Sf
def pairsOf{d:Type}(l:List d):List (d×d):=l.zip (l.drop 1++l.take 1)
def zbq{d:Type}(l:List d):(pairsOf l).length=l.length:=by
 unfold pairsOf;rw[Jz,Z5,Ys,Ww];omega
def znj{f:Type}{l:List f}{k:Nat}{p:f×f}(h:(pairsOf l)[k]? = some p):l[k]? = some p.1/\l[(k+1)%l.length]? = some p.2:=by
 have g:k<l.length:=by
  have:=(Zm.mp h).1
  rw[zbq] at this;exact this
 unfold pairsOf at h;rw[Kg] at h;refine⟨h.1,?_⟩
 have d:=h.2;rcases Yf (k+1) l.length with q|q
 ·rw[Ya (by rw[Ys];omega),Us,Gg] at d;rw[Zj q];exact d
 ·have e:k+1=l.length:=by omega
  rw[Yd (by rw[Ys];omega),Ys,show k-(l.length-1)=0 by omega,Jo vA] at d;rw[e,Jh];exact d
theorem zip_map(l:List (Rat×Rat)):zipD (l.map stD) ((l.map stD).drop 1++(l.map stD).take 1)=(pairsOf l).map λp=>D.tup [stD p.1,stD p.2]:=by
 unfold zipD pairsOf;rw[<-Jr,<-V8,<-Y3,List.zip_map,Ye];rfl
def zcl(s e:Rat×Rat):H3:=low3 (s.2-e.2) (e.1-s.1) ((s.2-e.2)*s.1+(e.1-s.1)*s.2)
def zev{s e:Rat×Rat}(h:s≠e):s.2-e.2≠0\/e.1-s.1≠0:=by
 refine Yu λd=>h ?_
 have f:s.2-e.2=0:=Yu λz=>d (.inl z)
 have g:e.1-s.1=0:=Yu λz=>d (.inr z)
 refine Yh ?_ ?_
 ·grind
 ·grind
def yjq{s e:Rat×Rat}(d:Sz 165 s.1)(f:Sz 165 s.2)(l:Sz 165 e.1)(m:Sz 165 e.2)(h:s≠e):HB 3000 (zcl s e):=by
 have q:=f.sub m;have r:=l.sub d;have u:=(q.mul d).add (r.mul f);have n:=t3_bd (q.mono (show 165+165+1<=1000 by decide)) (r.mono (show 165+165+1<=1000 by decide)) (u.mono (show(165+165+1+165)+(165+165+1+165)+1<=1000 by decide));obtain⟨v,w,A⟩:=zsq (t3 (s.2-e.2) (e.1-s.1) ((s.2-e.2)*s.1+(e.1-s.1)*s.2))
 have key:∀t g:Int,g∣t->t.natAbs<2^3000->(t.fdiv g).natAbs<2^3000:=λt g B C=>by
  obtain⟨x,o⟩:=B
  rcases Ul (g=0) with z|z
  ·rw[z,Int.fdiv_zero];exact J3 _
  ·rw[o,Z3 _ z];rcases Ul (x=0) with p|p
   ·rw[p];exact J3 _
   ·refine Yk ?_ C;exact zam ⟨g,by rw[o,Qu]⟩ (by rw[o];exact Yc z p)
 exact⟨key _ _ v n.a,key _ _ w n.b,key _ _ A n.c⟩
section
variable{Γ:Nat->∅}
def zew:∅:=run (tab []) zmi 1
def ok_steps:∀d w,d.length=1->zew d=some w->run Γ zmi 1 d=some w:=λd w _ h=>zcb [] (λp e=>by cases e) vA d w h
def zwl{L:List D}(d:1<=L.length)(e:L.length<=1000):zew [.lst L]=some (.new (zipD L (L.drop 1++L.take 1))):=by
 have f:=ztb (l:=L) (a:=1) d;have g:=cut_to (l:=L) (a:=1) d;rw[show((1:Nat):Int)=1 from rfl] at f g;have h:opW .add (.lst (L.drop 1)) (.lst (L.take 1))=some (.new (L.drop 1++L.take 1)):=by
  show(if _ then some (W.new _) else none)=_;rw[if_pos (by rw[Qk,Ys,Ww];omega)]
 have m:fmW .zip [.lst L,.lst (L.drop 1++L.take 1)]=some (.new (zipD L (L.drop 1++L.take 1))):=by
  show(if _ then some (W.new _) else none)=_;rw[if_pos (by rw[Z5,Ys,Ww];omega)]
 generalize zipD L (L.drop 1++L.take 1)=Z at *;generalize L.drop 1++L.take 1=Y at *;generalize L.drop 1=n at *;generalize L.take 1=o at *;clear d e;unfold zew zmi;walk_at "evh"
abbrev zgy:List (Nat×(∅)):=[(9,zde),(10,zav),(11,zae),(43,zqb)]
def zex:∅:=run (tab zgy) zbp 5
def ok_side_between(m:Γ 9=zde)(f:Γ 10=zav)(g:Γ 11=zae)(l:Γ 43=zqb):∀d w,d.length=2->zex d=some w->run Γ zbp 5 d=some w:=λd w _ h=>zcb zgy (by
 intro p e;simp only[zgy,Zg,Zu,or_false] at e;rcases e with rfl|rfl|rfl|rfl<;>assumption) vA d w h
def zwq{s e:Rat×Rat}(d:Sz 165 s.1)(f:Sz 165 s.2)(l:Sz 165 e.1)(m:Sz 165 e.2)(h:s≠e):zex [stD s,stD e]=some (.val (hD (zcl s e))):=by
 unfold zex;generalize g:tab zgy=Γ;have w:Γ 9=zde:=by rw[<-g];rfl
 have r:Γ 10=zav:=by rw[<-g];rfl
 have t:Γ 11=zae:=by rw[<-g];rfl
 have u:Γ 43=zqb:=by rw[<-g];rfl
 have n:=f.sub m;have o:=l.sub d;have z:zav [fr s.2,fr e.2]=some (.val (fr (s.2-e.2))):=zal (zaa f m vA vA);have A:zav [fr e.1,fr s.1]=some (.val (fr (e.1-s.1))):=zal (zaa l d vA vA);have B:zae [fr (s.2-e.2),fr s.1]=some (.val (fr ((s.2-e.2)*s.1))):=zal (zaa n d vA vA);have C:zae [fr (e.1-s.1),fr s.2]=some (.val (fr ((e.1-s.1)*s.2))):=zal (zaa o f vA vA);have D:zde [fr ((s.2-e.2)*s.1),fr ((e.1-s.1)*s.2)]=some (.val (fr ((s.2-e.2)*s.1+(e.1-s.1)*s.2))):=zal (zaa (n.mul d) (o.mul f) vA vA);have p:=(n.mul d).add (o.mul f);have v:=yen (n.mono (show 165+165+1<=1000 by decide)) (o.mono (show 165+165+1<=1000 by decide)) (p.mono (show(165+165+1+165)+(165+165+1+165)+1<=1000 by decide)) vA (zev h);have q:hD (low3 (s.2-e.2) (e.1-s.1) ((s.2-e.2)*s.1+(e.1-s.1)*s.2))=hD (zcl s e):=rfl;rw[q] at v;generalize hD (zcl s e)=O at *;clear n o p d f l m h g q;unfold zbp stD;walk_at "evh"
def zed:∅:=run (tab [(41,zew),(42,zex)]) zcq 1
def ok_sides_of(f:Γ 41=zew)(g:Γ 42=zex):∀d w,d.length=1->zed d=some w->run Γ zcq 1 d=some w:=λd w _ h=>zcb [(41,zew),(42,zex)] (by
 intro p e;simp only[Zg,Zu,or_false] at e;rcases e with rfl|rfl<;>assumption) vA d w h
def B9(l:List (Rat×Rat)):List H3:=(pairsOf l).map λp=>zcl p.1 p.2
def zyg{l:List (Rat×Rat)}(g:l.Nodup)(r:2<=l.length){p:(Rat×Rat)×(Rat×Rat)}(h:p∈pairsOf l):p.1≠p.2/\p.1∈l/\p.2∈l:=by
 obtain⟨k,m⟩:=Wn h
 obtain⟨d,f⟩:=znj m
 refine⟨λe=>?_,Yr d,Yr f⟩
 rw[e] at d;obtain⟨l1,n⟩:=Zm.mp d
 obtain⟨l2,o⟩:=Zm.mp f
 have:=(Kl g).mp (n.trans o.symm)
 rcases Yf (k+1) l.length with q|q
 ·rw[Zj q] at this;omega
 ·rw[show k+1=l.length by omega,Jh] at this;omega
def zic{l:List (Rat×Rat)}(f:l.Nodup)(h:2<=l.length)(m:l.length<=1000)(e:SzL 165 l):zed [.lst (l.map stD)]=some (.new ((B9 l).map hD)):=by
 unfold zed;generalize d:tab [(41,zew),(42,zex)]=Γ;have v:Γ 41=zew:=by rw[<-d];rfl
 have w:Γ 42=zex:=by rw[<-d];rfl
 have n:=zwl (L:=l.map stD) (by rw[Zc];omega) (by rw[Zc];exact m);rw[zip_map] at n;have pl:=zbq l;have o:ev Γ (.comp (.call 42 #v[.var 1,.var 2]) (.tup [1,2]) (.seq (.call 41 #v[.var 0])) 3 [] .non) [some (.lst (l.map stD))]=some (.new ((pairsOf l).map λp=>hD (zcl p.1 p.2))):=by
  refine zce (g:=λp=>D.tup [stD p.1,stD p.2]) ?_ (by rw[Qk];omega) rfl λp t=>?_
  ·generalize (pairsOf l).map (λp=>D.tup [stD p.1,stD p.2])=Z at *;clear f h m e d pl;walk_at "evh"
  ·obtain⟨u,q,r⟩:=zyg f h t
   have z:=zwq (e _ q).1 (e _ q).2 (e _ r).1 (e _ r).2 u;generalize hD (zcl p.1 p.2)=O at *;generalize stD p.1=x at *;generalize stD p.2=y at *;clear f h m e d pl u q r t n;walk_at "evh"
 unfold B9;rw[Ye];show run Γ zcq 1 _=some (.new ((pairsOf l).map λp=>hD (zcl p.1 p.2)));generalize ((pairsOf l).map λp=>hD (zcl p.1 p.2))=O at *;unfold zcq;generalize s:E.comp _ _ _ _ _ _=A at *;clear f h m e d pl s n;walk_at "evh"
end
open Sf
section
variable{Γ:Nat->∅}
end
open Sf
section
variable{Γ:Nat->∅}
end
open Sf
def lv(a b:Int)(q:Rat×Rat):Rat:=(a:Rat)*q.1+(b:Rat)*q.2
def zeb{n:Nat}{a:Int}(h:a.natAbs<2^n)(d:1<=n):Sz n (a:Rat):=⟨h,Zf (show 1<2^1 by decide) (Bx d)⟩
def mx(a b:Int):Rat->List (Rat×Rat)->Rat
 |x,[]=>x
 |x,q::r=>mx a b (if x<lv a b q then lv a b q else x) r
theorem mx_ok(a b:Int):∀(r:List (Rat×Rat)) (x:Rat),x<=mx a b x r/\(∀q∈r,lv a b q<=mx a b x r)/\(mx a b x r=x\/∃q∈r,mx a b x r=lv a b q)
 |[],x=>⟨Wm,λq h=>(nomatch h),.inl rfl⟩
 |q::r,x=>by
  obtain⟨f,g,l⟩:=mx_ok a b r (if x<lv a b q then lv a b q else x)
  have e:mx a b x (q::r)=mx a b (if x<lv a b q then lv a b q else x) r:=rfl;rw[e];by_cases c:x<lv a b q
  ·rw[if_pos c] at f g l |-;refine⟨Jf (Zy c) f,λz d=>?_,?_⟩
   ·rcases Zg.mp d with e|e
    ·rw[e];exact f
    ·exact g z e
   ·rcases l with e|⟨z,d,e⟩
    ·exact .inr ⟨q,.head _,e⟩
    ·exact .inr ⟨z,.tail _ d,e⟩
  ·rw[if_neg c] at f g l |-;refine⟨f,λz d=>?_,?_⟩
   ·rcases Zg.mp d with e|e
    ·rw[e];exact Jf (Rat.not_lt.mp c) f
    ·exact g z e
   ·rcases l with e|⟨z,d,e⟩
    ·exact .inl e
    ·exact .inr ⟨z,.tail _ d,e⟩
section
variable{Γ:Nat->∅}
abbrev zha:List (Nat×(∅)):=[(9,zde),(11,zae)]
def zee:∅:=run (tab zha) zmj 3
def ok_level(g:Γ 9=zde)(f:Γ 11=zae):∀d w,d.length=3->zee d=some w->run Γ zmj 3 d=some w:=λd w _ h=>zcb zha (by
 intro p e;simp only[zha,Zg,Zu,or_false] at e;rcases e with rfl|rfl<;>assumption) vA d w h
abbrev zgz:List (Nat×(∅)):=[(50,zee),(21,zgi)]
def zez:∅:=run (tab zgz) zjk 6
abbrev zfi:Ss:=#v[.asg 5 (.call 50 #v[.var 1,.var 2,.var 4]),.iff (.call 21 #v[.var 3,.var 5]) #v[.asg 3 (.var 5)] .nil]
end
open Sf
def zld(a b:Rat):a<b\/a=b\/b<a:=by
 by_cases h:a<b
 ·exact .inl h
 ·by_cases e:a=b
  ·exact .inr (.inl e)
  ·exact .inr (.inr (by grind))
def yhd{a b c:Rat}(d:a<b)(e:b<c):a<c:=by grind
def zyo(a:Rat×Rat):¬ltR a a:=λh=>by
 rcases h with h|⟨_,h⟩<;>exact Rat.lt_irrefl h
def zyn{a b c:Rat×Rat}(d:ltR a b)(e:ltR b c):ltR a c:=by
 unfold ltR at *;rcases d with d|⟨f,d⟩<;>rcases e with e|⟨g,e⟩
 ·exact .inl (yhd d e)
 ·exact .inl (by rw[<-g];exact d)
 ·exact .inl (by rw[f];exact e)
 ·exact .inr ⟨f.trans g,yhd d e⟩
def ymf(a b:Rat×Rat):ltR a b\/a=b\/ltR b a:=by
 rcases zld a.1 b.1 with h|h|h
 ·exact .inl (.inl h)
 ·rcases zld a.2 b.2 with k|k|k
  ·exact .inl (.inr ⟨h,k⟩)
  ·exact .inr (.inl (Yh h k))
  ·exact .inr (.inr (.inr ⟨h.symm,k⟩))
 ·exact .inr (.inr (.inl h))
theorem IsShp.map{l:List (Rat×Rat)}{f:Rat×Rat->Rat×Rat}(hS:IsShp l)(s:∀a b,ltR a b->ltR (f a) (f b))(t:∀a b c,0<oR a b c->0<oR (f a) (f b) (f c)):IsShp (l.map f):=by
 refine⟨by rw[Zc];exact hS.three,λk B q n o=>?_,λk a b c p r u v w=>?_⟩
 ·rw[Zh] at n o;obtain⟨x,g,e⟩:=Zb.mp n
  obtain⟨y,h,d⟩:=Zb.mp o
  rw[<-e,<-d];exact s _ _ (hS.first k x y g h)
 ·rw[Zc,Zh] at p;rw[Zh] at r;obtain⟨x,g,e⟩:=Zb.mp p
  obtain⟨y,h,d⟩:=Zb.mp r
  obtain⟨z,A,m⟩:=Zv.mp u
  rw[<-e,<-d,<-m];exact t _ _ _ (hS.conv k x y z g h A (λq=>v (by rw[<-m,q,e])) λq=>w (by rw[<-m,q,d]))
def pshR(p q:Rat×Rat):Rat×Rat:=(q.1+p.1,q.2+p.2)
def szR(k:Rat)(q:Rat×Rat):Rat×Rat:=(q.1*k,q.2*k)
def ltR_sz{k:Rat}(d:0<k){a b:Rat×Rat}(h:ltR a b):ltR (szR k a) (szR k b):=by
 unfold ltR szR at *;rcases h with h|⟨e,h⟩
 ·exact .inl ((Gn d).mpr h)
 ·exact .inr ⟨by rw[e],(Gn d).mpr h⟩
def rot{d:Type}(l:List d)(k:Nat):List d:=l.drop k++l.take k
def zfp{d:Type}{l:List d}{k:Nat}:(rot l k).length=l.length:=by
 unfold rot;rw[Z5,Ys,Ww];omega
def zla{d:Type}{l:List d}{k i:Nat}(e:k<l.length)(f:i<l.length):(rot l k)[i]? = l[(i+k)%l.length]?:=by
 unfold rot;rcases Yf (i+k) l.length with h|h
 ·rw[Ya (by rw[Ys];omega),Us,Zj h,Gg]
 ·rw[Yd (by rw[Ys];omega),Ys,Jo vB,Ji h,Zj vB];congr 1
  omega
def rot_mem{d:Type}{l:List d}{k:Nat}{x:d}:x∈rot l k↔x∈l:=by
 unfold rot;rw[Y6,Or.comm,<-Y6,List.take_append_drop]
def zwx{d e:Type}(f:d->e)(l:List d)(k:Nat):(rot l k).map f=rot (l.map f) k:=by
 unfold rot;rw[Y3,Jr,V8]
structure Fst(l:List (Rat×Rat))(k:Nat):Prop where
 lt:k<l.length
 low:∀j p q,j≠k->l[k]? = some p->l[j]? = some q->ltR p q
def IsShp.of_rot{l:List (Rat×Rat)}{k:Nat}(s:3<=l.length)(conv:∀k a b c,l[(k+l.length-1)%l.length]? = some a->l[k]? = some b->c∈l->c≠a->c≠b->0<oR a b c)(n:Fst l k):IsShp (rot l k):=by
 have d:=n.lt;refine⟨by rw[zfp];exact s,λj v q o f=>?_,λj a b c p g r t u=>?_⟩
 ·have h:j+1<l.length:=by
   have:=(Zm.mp f).1
   rw[zfp] at this;exact this
  rw[zla d vB,Yz,Zj d] at o;rw[zla d h] at f;refine n.low _ _ _ ?_ o f;rcases Yf (j+1+k) l.length with z|z
  ·rw[Zj z];omega
  ·rw[Ji z,Zj vB];omega
 ·have m:j<l.length:=by
   have:=(Zm.mp g).1
   rw[zfp] at this;exact this
  rw[zfp,zla d (Wp _ vB)] at p;rw[zla d m] at g;rw[rot_mem] at r;refine conv ((j+k)%l.length) a b c ?_ g r t u;rw[<-p];congr 1
  have e:((j+k)%l.length+l.length-1)%l.length=((j+k)%l.length+(l.length-1))%l.length:=by congr 1;omega
  rw[e,Uo,Vq,<-Uo,Uo ((j+l.length-1)%l.length),Vq,<-Uo];congr 1
  omega
namespace Mg
open DL
abbrev V:=Rat×Rat
def xr(u v:V):Rat:=u.1*v.2-u.2*v.1
def mn(a b:V):V:=(a.1-b.1,a.2-b.2)
def pl(a b:V):V:=(a.1+b.1,a.2+b.2)
def ng(u:V):V:=(-u.1,-u.2)
def up(u:V):Prop:=0<u.1\/(u.1=0/\0<u.2)
def zac(u v:V):xr u v = - xr v u:=by unfold xr;grind
def zho(u v:V):xr (ng u) v = - xr u v:=by unfold xr ng;grind
def zhn(u v:V):xr u (ng v) = - xr u v:=by unfold xr ng;grind
def zvh(u v:V):xr (ng u) (ng v)=xr u v:=by unfold xr ng;grind
def zvg(u v w:V):xr u (pl v w)=xr u v+xr u w:=by unfold xr pl;grind
def ztl(u v w:V):xr (pl u v) w=xr u w+xr v w:=by unfold xr pl;grind
def zad{a b:Rat}(d:0<b)(h:0<=a*b):0<=a:=by
 by_cases k:0<=a
 ·exact k
 ·have:=Zq (show 0 < -a by grind) d
  grind
def up_1{u:V}(h:up u):0<=u.1:=by rcases h with h|h<;>grind
def ybz{u v w:V}(n:up u)(d:up v)(f:up w)(o:0<=xr u v)(p:0<=xr v w):0<=xr u w:=by
 have g:=up_1 n;have l:=up_1 f;rcases d with d|⟨v1,m⟩
 ·refine zad d ?_;have e:xr u w*v.1=xr u v*w.1+xr v w*u.1:=by unfold xr;grind
  rw[e];have a:=Zn o l;have b:=Zn p g;grind
 ·have q:w.1=0:=by
   have a:=Zn (Zy m) l;have e:xr v w = - (v.2*w.1):=by unfold xr;rw[v1];grind
   by_cases k:w.1=0
   ·exact k
   ·have:=Zq m (show 0<w.1 by grind)
    grind
  have r:0<w.2:=by rcases f with h|h<;>grind
  have e:xr u w=u.1*w.2:=by unfold xr;rw[q];grind
  rw[e];exact Zn g (Zy r)
def zrj{u v w:V}(d:up u)(e:up v)(f:up w)(h:0<xr u v)(g:0<=xr v w):0<xr u w:=by
 by_cases k:0<xr u w
 ·exact k
 ·have:=ybz e f d g (by rw[zac];grind)
  rw[zac] at this;grind
def zri{u v w:V}(d:up u)(e:up v)(f:up w)(g:0<=xr u v)(h:0<xr v w):0<xr u w:=by
 by_cases k:0<xr u w
 ·exact k
 ·have:=ybz f d e (by rw[zac];grind) g
  rw[zac] at this;grind
def bf(u v:V):Prop:=(up u/\up (ng v))\/(up u/\up v/\0<xr u v)\/(up (ng u)/\up (ng v)/\0<xr u v)
def al(u v:V):Prop:=((up u/\up v)\/(up (ng u)/\up (ng v)))/\xr u v=0
def zab{u:V}(h:up u)(k:up (ng u)):False:=by
 unfold up ng at *;rcases h with h|h<;>rcases k with k|k<;>grind
def zth{u v w:V}(h:bf u v)(k:bf v w):bf u w:=by
 rcases h with⟨a,b⟩|⟨a,b,c⟩|⟨a,b,c⟩<;>rcases k with⟨d,e⟩|⟨d,e,f⟩|⟨d,e,f⟩
 ·exact(zab d b).elim
 ·exact(zab d b).elim
 ·exact .inl ⟨a,e⟩
 ·exact .inl ⟨a,e⟩
 ·exact .inr (.inl ⟨a,e,zrj a b e c (Zy f)⟩)
 ·exact .inl ⟨a,e⟩
 ·exact(zab d b).elim
 ·exact(zab d b).elim
 ·refine .inr (.inr ⟨a,e,?_⟩);rw[<-zvh] at c f |-;exact zrj a b e c (Zy f)
def ypa{u v:V}(h:al u v):al v u:=⟨h.1.imp (λk=>⟨k.2,k.1⟩) (λk=>⟨k.2,k.1⟩),by rw[zac,h.2];grind⟩
def al_bf{u v w:V}(h:al u v)(k:bf v w):bf u w:=by
 obtain⟨g,f⟩:=h
 rcases k with⟨a,b⟩|⟨a,b,c⟩|⟨a,b,c⟩<;>rcases g with⟨d,e⟩|⟨d,e⟩
 ·exact .inl ⟨d,b⟩
 ·exact(zab a e).elim
 ·exact .inr (.inl ⟨d,b,zri d e b (by rw[f];exact Wm) c⟩)
 ·exact(zab a e).elim
 ·exact(zab e a).elim
 ·refine .inr (.inr ⟨d,b,?_⟩);rw[<-zvh] at c f |-;exact zri d e b (by rw[f];exact Wm) c
structure Poly(P:Nat->V)(n:Nat):Prop where
 three:3<=n
 per:∀i,P (i+n)=P i
 conv:∀i k,0<=xr (mn (P (i+1)) (P i)) (mn (P k) (P i))
 turn:∀i,0<xr (mn (P (i+1)) (P i)) (mn (P (i+2)) (P (i+1)))
 fst:up (mn (P 1) (P 0))
 lst:up (ng (mn (P n) (P (n-1))))
 half:∀i,up (mn (P (i+1)) (P i))\/up (ng (mn (P (i+1)) (P i)))
 mono:∀i,i+1<n->up (ng (mn (P (i+1)) (P i)))->up (ng (mn (P (i+2)) (P (i+1))))
 low:∀k,0<k->k<n->up (mn (P k) (P 0))
def ed(P:Nat->V)(i:Nat):V:=mn (P (i+1)) (P i)
variable{P Q:Nat->V}{n m:Nat}
def Poly.next(h:Poly P n){i:Nat}(d:i+1<n):bf (ed P i) (ed P (i+1)):=by
 have t:=h.turn i;rcases h.half i with a|a
 ·rcases h.half (i+1) with b|b
  ·exact .inr (.inl ⟨a,b,t⟩)
  ·exact .inl ⟨a,b⟩
 ·exact .inr (.inr ⟨a,h.mono i d a,t⟩)
def Poly.edp(h:Poly P n)(i:Nat):ed P (i+n)=ed P i:=by
 unfold ed;rw[show i+n+1=i+1+n by omega,h.per,h.per]
def Poly.wrap(h:Poly P n):0<xr (ed P (n-1)) (ed P 0):=by
 have t:=h.turn (n-1);have:=h.three
 rw[show n-1+2=1+n by omega,show n-1+1=0+n by omega,h.per,h.per] at t;unfold ed;rw[show n-1+1=0+n by omega,h.per];exact t
def Poly.lst'(h:Poly P n):up (ng (ed P (n-1))):=by
 have:=h.three
 have t:=h.lst;unfold ed;rw[show n-1+1=n by omega];exact t
structure Inv(P Q:Nat->V)(n m i j:Nat):Prop where
 a:0<i->j<m->bf (ed P (i-1)) (ed Q j)
 b:0<j->i<n->bf (ed Q (j-1)) (ed P i)
def Inv.symm{i j:Nat}(h:Inv P Q n m i j):Inv Q P m n j i:=⟨h.b,h.a⟩
def apart(g:Poly Q m){i j:Nat}(I:Inv P Q n m i j)(h:i<n)(o:j<m)(a:up (ed P i))(b:up (ng (ed Q j))):0<xr (ed P i) (ed Q j):=by
 have f:0<j:=by
  rcases Wv j with e|e
  ·subst e;exact(zab g.fst b).elim
  ·exact e
 have t:=g.turn (j-1);rw[show j-1+2=j+1 by omega,show j-1+1=j by omega] at t;rcases I.b f h with⟨c,d⟩|⟨c,d,e⟩|⟨c,d,e⟩
 ·exact(zab a d).elim
 ·have:0<xr (ng (ed Q j)) (ed Q (j-1)):=by
   have l:ed Q (j-1)=mn (Q j) (Q (j-1)):=by unfold ed;rw[show j-1+1=j by omega]
   rw[zho,zac,l];unfold ed;grind
  have:=zrj b c a this (Zy e)
  rw[zho,zac] at this;grind
 ·exact(zab a d).elim
def yll(d:Poly P n)(e:Poly Q m){i j:Nat}(I:Inv P Q n m i j)(f:i<n)(g:j<m):
  (0<xr (ed P i) (ed Q j)->bf (ed P i) (ed Q j))/\(xr (ed P i) (ed Q j)<0->bf (ed Q j) (ed P i))/\(xr (ed P i) (ed Q j)=0->al (ed P i) (ed Q j)):=by
 rcases d.half i with a|a<;>rcases e.half j with b|b
 ·exact⟨λh=>.inr (.inl ⟨a,b,h⟩),λh=>.inr (.inl ⟨b,a,by rw[zac];grind⟩),λh=>⟨.inl ⟨a,b⟩,h⟩⟩
 ·have:=apart e I f g a b
  exact⟨λh=>.inl ⟨a,b⟩,λh=>by grind,λh=>by grind⟩
 ·have:=apart d I.symm g f b a
  rw[zac] at this;exact⟨λh=>by grind,λh=>.inl ⟨b,a⟩,λh=>by grind⟩
 ·exact⟨λh=>.inr (.inr ⟨a,b,h⟩),λh=>.inr (.inr ⟨b,a,by rw[zac];grind⟩),λh=>⟨.inr ⟨a,b⟩,h⟩⟩
end Mg
namespace Mg
open DL
variable{P Q:Nat->V}{n m:Nat}
def Poly.cone(h:Poly Q m)(j:Nat){g:V}(A:0<=xr g (ed Q j))(B:0<=xr (ed Q (j+m-1)) g)(k:Nat):0<=xr g (mn (Q k) (Q j)):=by
 have r:=h.three;have t:=h.turn (j+m-1);have l:=h.conv j k;have d:=h.conv (j+m-1) k;have f:j+m-1+1=j+m:=by omega
 have n:j+m-1+2=j+1+m:=by omega
 rw[f,n,h.per,h.per] at t;rw[f,h.per] at d;have o:ed Q (j+m-1)=mn (Q j) (Q (j+m-1)):=by unfold ed;rw[f,h.per]
 rw[o] at B;have p:ed Q j=mn (Q (j+1)) (Q j):=rfl;rw[p] at A;refine zad t ?_;generalize Q (j+m-1)=z at *;have q:xr (mn (Q j) z) (mn (Q k) z)=xr (mn (Q j) z) (mn (Q k) (Q j)):=by unfold xr mn;grind
 rw[q] at d;have e:xr g (mn (Q k) (Q j))*xr (mn (Q j) z) (mn (Q (j+1)) (Q j))=xr (mn (Q j) z) (mn (Q k) (Q j))*xr g (mn (Q (j+1)) (Q j))+xr (mn (Q (j+1)) (Q j)) (mn (Q k) (Q j))*xr (mn (Q j) z) g:=by unfold xr;grind
 rw[e];have a:=Zn d A;have b:=Zn l B;grind
def Poly.fst'(h:Poly Q m):up (ed Q 0):=h.fst
def Poly.pred(h:Poly Q m){j:Nat}(d:0<j):ed Q (j+m-1)=ed Q (j-1):=by
 rw[show j+m-1=j-1+m by omega,h.edp]
def Poly.turn'(h:Poly Q m){j:Nat}(d:0<j):0<xr (ed Q (j-1)) (ed Q j):=by
 have t:=h.turn (j-1);unfold ed;rw[show j-1+2=j+1 by omega,show j-1+1=j by omega] at t;rw[show j-1+1=j by omega];exact t
def sup(q:Poly P n)(f:Poly Q m){i j:Nat}(I:Inv P Q n m i j)(l:i<n)(o:j=m\/(j<m/\0<=xr (ed P i) (ed Q j))):
  0<=xr (ed P i) (ed Q j)/\0<xr (ed Q (j+m-1)) (ed P i):=by
 have C:=f.three;rcases o with e|⟨o,A⟩
 ·subst e;have r:=I.b vB l;have s:ed Q j=ed Q 0:=by have:=f.edp 0;rwa [Yz] at this
  rw[f.pred vB,s];have d:=f.lst';have w:=f.wrap;rcases r with⟨a,b⟩|⟨a,b,c⟩|⟨a,b,c⟩
  ·exact(zab a d).elim
  ·exact(zab a d).elim
  ·refine⟨?_,c⟩
   have g:0<xr (ed Q 0) (ng (ed Q (j-1))):=by rw[zhn,zac];grind
   have v:0<xr (ng (ed Q (j-1))) (ng (ed P i)):=by rw[zvh];exact c
   have:=zrj f.fst' a b g (Zy v)
   rw[zhn,zac] at this;grind
 ·refine⟨A,?_⟩
  have O:=yll q f I l o;rcases Wv j with e|e
  ·subst e;have d:=f.lst';have w:=f.wrap;rw[Yz];have u:up (ed P i):=by
    by_cases k:0<xr (ed P i) (ed Q 0)
    ·rcases O.1 k with⟨a,_⟩|⟨a,_,_⟩|⟨_,b,_⟩
     ·exact a
     ·exact a
     ·exact(zab f.fst' b).elim
    ·rcases(O.2.2 (by grind)).1 with⟨a,_⟩|⟨_,b⟩
     ·exact a
     ·exact(zab f.fst' b).elim
   have g:0<xr (ed Q 0) (ng (ed Q (m-1))):=by rw[zhn,zac];grind
   have:=zri u f.fst' d A g
   rw[zhn,zac] at this;grind
  ·rw[f.pred e];rcases I.b e l with⟨a,b⟩|⟨a,b,c⟩|⟨a,b,c⟩
   ·have z:up (ng (ed Q j)):=by
     by_cases k:0<xr (ed P i) (ed Q j)
     ·rcases O.1 k with⟨h,_⟩|⟨h,_,_⟩|⟨_,p,_⟩
      ·exact(zab h b).elim
      ·exact(zab h b).elim
      ·exact p
     ·rcases(O.2.2 (by grind)).1 with⟨h,_⟩|⟨_,p⟩
      ·exact(zab h b).elim
      ·exact p
    have t:=f.turn' e;have g:0<xr (ng (ed Q j)) (ed Q (j-1)):=by rw[zho,zac];grind
    have B:0<=xr (ng (ed P i)) (ng (ed Q j)):=by rw[zvh];exact A
    have:=zri b z a B g
    rw[zho,zac] at this;grind
   ·exact c
   ·exact c
def Stp(P Q:Nat->V)(n m:Nat)(s t:Nat×Nat):Prop:=
 (t=(s.1+1,s.2)/\s.1<n/\(s.2=m\/(s.2<m/\0<xr (ed P s.1) (ed Q s.2)))) \/
 (t=(s.1,s.2+1)/\s.2<m/\(s.1=n\/(s.1<n/\xr (ed P s.1) (ed Q s.2)<0))) \/
 (t=(s.1+1,s.2+1)/\s.1<n/\s.2<m/\xr (ed P s.1) (ed Q s.2)=0)
def at2(P Q:Nat->V)(s:Nat×Nat):V:=pl (P s.1) (Q s.2)
def gw(P Q:Nat->V)(s t:Nat×Nat):V:=mn (at2 P Q t) (at2 P Q s)
def gw1(i j:Nat):gw P Q (i,j) (i+1,j)=ed P i:=by
 unfold gw at2 ed mn pl;exact Yh (by dsimp only;grind) (by dsimp only;grind)
def gw2(i j:Nat):gw P Q (i,j) (i,j+1)=ed Q j:=by
 unfold gw at2 ed mn pl;exact Yh (by dsimp only;grind) (by dsimp only;grind)
def gw3(i j:Nat):gw P Q (i,j) (i+1,j+1)=pl (ed P i) (ed Q j):=by
 unfold gw at2 ed mn pl;exact Yh (by dsimp only;grind) (by dsimp only;grind)
structure StepOk(P Q:Nat->V)(n m:Nat)(s t:Nat×Nat):Prop where
 inv:Inv P Q n m t.1 t.2
 lowP:∀k,0<=xr (gw P Q s t) (mn (P k) (P s.1))
 lowQ:∀k,0<=xr (gw P Q s t) (mn (Q k) (Q s.2))
 fromP:0<xr (ed P (s.1+n-1)) (gw P Q s t)
 fromQ:0<xr (ed Q (s.2+m-1)) (gw P Q s t)
def Poly.turnp(h:Poly Q m)(j:Nat):0<xr (ed Q (j+m-1)) (ed Q j):=by
 have d:=h.three;rcases Wv j with e|e
 ·subst e;rw[Yz];exact h.wrap
 ·rw[h.pred e];exact h.turn' e
def zsc(d:Poly P n)(f:Poly Q m){i j:Nat}(I:Inv P Q n m i j)(g:i<n)(o:j<=m)(l:j=m\/(j<m/\0<xr (ed P i) (ed Q j))):StepOk P Q n m (i,j) (i+1,j):=by
 have S:=sup d f I g (l.imp_right λh=>⟨h.1,Zy h.2⟩);refine⟨⟨λ_ h=>?_,λh k=>?_⟩,λk=>?_,λk=>?_,?_,?_⟩
 ·rw[Wa];rcases l with e|⟨p,q⟩
  ·exact absurd h (by dsimp only;omega)
  ·exact(yll d f I g p).1 q
 ·exact zth (I.b h g) (d.next k)
 ·rw[gw1];exact d.conv i k
 ·rw[gw1];exact f.cone j S.1 (Zy S.2) k
 ·rw[gw1];exact d.turnp i
 ·rw[gw1];exact S.2
def zln(i j d e:Nat):gw Q P (j,i) (e,d)=gw P Q (i,j) (d,e):=by
 unfold gw at2 mn pl;exact Yh (by dsimp only;grind) (by dsimp only;grind)
def StepOk.swap{i j d e:Nat}(h:StepOk Q P m n (j,i) (e,d)):StepOk P Q n m (i,j) (d,e):=
 ⟨h.inv.symm,λk=>by have:=h.lowQ k;rwa [zln] at this,λk=>by have:=h.lowP k;rwa [zln] at this,by have:=h.fromQ;rwa [zln] at this,by have:=h.fromP;rwa [zln] at this⟩
def yam(d:Poly P n)(e:Poly Q m){i j:Nat}(I:Inv P Q n m i j)(f:i<n)(g:j<m)(l:xr (ed P i) (ed Q j)=0):StepOk P Q n m (i,j) (i+1,j+1):=by
 have S:=sup d e I f (.inr ⟨g,by rw[l];exact Wm⟩);have o:xr (ed Q j) (ed P i)=0:=by rw[zac,l];grind
 have p:=sup e d I.symm g (.inr ⟨f,by rw[o];exact Wm⟩);have q:=(yll d e I f g).2.2 l;refine⟨⟨λ_ h=>?_,λ_ k=>?_⟩,λk=>?_,λk=>?_,?_,?_⟩
 ·rw[Wa];exact al_bf q (e.next h)
 ·rw[Wa];exact al_bf (ypa q) (d.next k)
 ·rw[gw3,ztl];have a:=d.conv i k;have b:=d.cone i p.1 (Zy p.2) k;unfold ed at *;grind
 ·rw[gw3,ztl];have a:=e.conv j k;have b:=e.cone j S.1 (Zy S.2) k;unfold ed at *;grind
 ·rw[gw3,zvg];have a:=d.turnp i;have b:=p.2;grind
 ·rw[gw3,zvg];have a:=e.turnp j;have b:=S.2;grind
def zku(d:Poly P n)(f:Poly Q m){s t:Nat×Nat}(I:Inv P Q n m s.1 s.2)(g:s.1<=n)(l:s.2<=m)(h:Stp P Q n m s t):StepOk P Q n m s t:=by
 obtain⟨i,j⟩:=s
 dsimp only at *;rcases h with⟨e,a,b⟩|⟨e,a,b⟩|⟨e,a,b,c⟩
 ·rw[e];exact zsc d f I a l b
 ·rw[e];exact(zsc f d I.symm a g (b.imp_right λk=>⟨k.1,by rw[zac];have:=k.2;grind⟩)).swap
 ·rw[e];exact yam d f I a b c
end Mg
namespace Mg
open DL
variable{P Q:Nat->V}{n m:Nat}
def zbn{a b:Rat}(d:0<b)(h:b*a=0):a=0:=by
 rcases zld a 0 with k|k|k
 ·have:=Zq d (show 0 < -a by grind);grind
 ·exact k
 ·have:=Zq d k;grind
def ext0{d:V}(e:d.1=0)(f:d.2=0):d=(0,0):=Yh e f
def zyj{a b:V}(h:mn a b=(0,0)):a=b:=by
 have d:=congrArg Prod.fst h;have e:=congrArg Prod.snd h;unfold mn at d e;exact Yh (by dsimp only at d;grind) (by dsimp only at e;grind)
def xr_id(u v w:V):xr u v*w.1=xr u w*v.1+xr w v*u.1/\xr u v*w.2=xr u w*v.2+xr w v*u.2:=by
 unfold xr;constructor<;>grind
def share{u g d:V}(m:0<xr u g)(n:xr g d=0)(p:0<=xr u d)(o:d≠(0,0)):0<xr u d/\∀h:V,xr u g*xr h d=xr u d*xr h g:=by
 have e:xr d g=0:=by rw[zac,n];grind
 obtain⟨f,l⟩:=xr_id u g d
 rw[e] at f l;refine⟨?_,λh=>?_⟩
 ·by_cases k:0<xr u d
  ·exact k
  ·have z:xr u d=0:=by grind
   rw[z] at f l;exact absurd (ext0 (zbn m (by grind)) (zbn m (by grind))) o
 ·have:xr u g*xr h d=h.1*(xr u g*d.2)-h.2*(xr u g*d.1):=by unfold xr;grind
  rw[this,f,l];unfold xr;grind
def yck{a b c a' b' c' c'':V}(r:0<=xr (mn a a') (mn c a'))(f:0<xr (mn a a') (mn b a))(s:0<=xr (mn b' b) (mn c b))(O:0<xr (mn b a) (mn b' b))
 (t:0<=xr (mn c'' c) (mn a c))(u:0<=xr (mn c'' c) (mn b c))(v:0<=xr (mn c c') (mn a c'))(A:0<=xr (mn c c') (mn b c'))(t3:0<xr (mn c c') (mn c'' c))
 (w:0<=xr (mn b a) (mn c a))(B:c≠a)(C:c≠b):0<xr (mn b a) (mn c a):=by
 by_cases k:0<xr (mn b a) (mn c a)
 ·exact k
 exfalso
 have z:xr (mn b a) (mn c a)=0:=by grind
 have D:xr (mn b a) (mn b c)=0:=by
  have:xr (mn b a) (mn b c) = - xr (mn b a) (mn c a):=by unfold xr mn;grind
  rw[this,z];grind
 have l:0<=xr (mn a a') (mn c a):=by
  have:xr (mn a a') (mn c a')=xr (mn a a') (mn c a):=by unfold xr mn;grind
  rw[<-this];exact r
 obtain⟨E,F⟩:=share f z l λe=>B (zyj e)
 have g:0<xr (ng (mn b' b)) (mn b a):=by rw[zho,zac];grind
 have m:0<=xr (ng (mn b' b)) (mn b c):=by
  have:xr (ng (mn b' b)) (mn b c)=xr (mn b' b) (mn c b):=by unfold xr mn ng;grind
  rw[this];exact s
 obtain⟨G,H⟩:=share g D m λe=>C (zyj e).symm
 have d:∀h:V,0<=xr h (mn a c)->0<=xr h (mn b c)->xr h (mn b a)=0:=λh q I=>by
  have P:=F h;have Q:=H h;have e:xr h (mn a c) = - xr h (mn c a):=by unfold xr mn;grind
  rw[e] at q;have R:=Zn (Zy f) q;have S:=Zn (Zy g) I;have T:0<=xr h (mn b a):=zad G (by grind);have U:0 <= - xr h (mn b a):=zad E (by grind);grind
 have J:=d _ t u;have n:0<=xr (mn c c') (mn a c):=by
  have:xr (mn c c') (mn a c')=xr (mn c c') (mn a c):=by unfold xr mn;grind
  rw[<-this];exact v
 have o:0<=xr (mn c c') (mn b c):=by
  have:xr (mn c c') (mn b c')=xr (mn c c') (mn b c):=by unfold xr mn;grind
  rw[<-this];exact A
 have K:=d _ n o;obtain⟨L,M⟩:=xr_id (mn c c') (mn c'' c) (mn b a)
 have p:xr (mn b a) (mn c'' c)=0:=by rw[zac,J];grind
 rw[K,p] at L M;have N:mn b a=(0,0):=ext0 (zbn t3 (by grind)) (zbn t3 (by grind));rw[N] at f;unfold xr at f;dsimp only at f;grind
inductive Tr(P Q:Nat->V)(n m:Nat):Nat×Nat->List (Nat×Nat)->Prop
 |nil:Tr P Q n m (n,m) []
 |cons {s t l}:Inv P Q n m s.1 s.2->s.1<=n->s.2<=m->Stp P Q n m s t->Tr P Q n m t l->Tr P Q n m s (s::l)
def Tr.get{s:Nat×Nat}{l:List (Nat×Nat)}(h:Tr P Q n m s l):∀{k:Nat}{x:Nat×Nat},l[k]? = some x->∃y,Inv P Q n m x.1 x.2/\x.1<=n/\x.2<=m/\Stp P Q n m x y/\(l[k+1]? = some y\/(k+1=l.length/\y=(n,m))):=by
 induction h with
 |nil=>intro k x h;cases h
 |@cons s t l I a b S T d=>
  intro k x h;cases k with
  |zero=>
   cases h;refine⟨t,I,a,b,S,?_⟩
   cases T with
   |nil=>exact .inr ⟨rfl,rfl⟩
   |cons _ _ _ _ _=>exact .inl rfl
  |succ k=>
   obtain⟨y,e,f,g,o,p⟩:=d (k:=k) h
   exact⟨y,e,f,g,o,p.imp id λq=>⟨by rw[Zr,q.1],q.2⟩⟩
def Tr.head{s:Nat×Nat}{l:List (Nat×Nat)}(h:Tr P Q n m s l)(d:s≠(n,m)):l[0]? = some s:=by
 cases h with
 |nil=>exact absurd rfl d
 |cons _ _ _ _ _=>rfl
def Tr.len{s:Nat×Nat}{l:List (Nat×Nat)}(h:Tr P Q n m s l):n<=s.1+l.length:=by
 induction h with
 |nil=>exact Zl _
 |@cons s t l I a b S T d=>
  rw[Zr];have:t.1<=s.1+1:=by rcases S with⟨e,_⟩|⟨e,_⟩|⟨e,_⟩<;>rw[e]<;>dsimp only<;>omega
  omega
end Mg
namespace Mg
open DL
variable{P Q:Nat->V}{n m:Nat}
def StepOk.left{s t:Nat×Nat}(h:StepOk P Q n m s t)(z:Nat×Nat):0<=xr (gw P Q s t) (mn (at2 P Q z) (at2 P Q s)):=by
 have a:=h.lowP z.1;have b:=h.lowQ z.2;have e:xr (gw P Q s t) (mn (at2 P Q z) (at2 P Q s))=xr (gw P Q s t) (mn (P z.1) (P s.1))+xr (gw P Q s t) (mn (Q z.2) (Q s.2)):=by
  generalize gw P Q s t=g;unfold at2 xr mn pl;grind
 rw[e];grind
def zvv(d:Poly P n)(f:Poly Q m){s t:Nat×Nat}(h:Stp P Q n m s t){v:V}(a:0<xr (ed P (t.1+n-1)) v)(b:0<xr (ed Q (t.2+m-1)) v):0<xr (gw P Q s t) v:=by
 obtain⟨i,j⟩:=s
 rcases h with⟨e,_⟩|⟨e,_⟩|⟨e,_⟩<;>subst e<;>dsimp only at a b
 ·rw[d.pred vB,Wa] at a;rw[gw1];exact a
 ·rw[f.pred vB,Wa] at b;rw[gw2];exact b
 ·rw[d.pred vB,Wa] at a;rw[f.pred vB,Wa] at b;rw[gw3,ztl];grind
def Stp.uniq{s t g:Nat×Nat}(h:Stp P Q n m s t)(k:Stp P Q n m s g):t=g:=by
 rcases h with⟨e,a,b⟩|⟨e,a,b⟩|⟨e,a,b,c⟩<;>rcases k with⟨f,l,d⟩|⟨f,l,d⟩|⟨f,l,d,o⟩
 ·rw[e,f]
 ·rcases b with b|b<;>rcases d with d|d<;>first|omega|(exfalso;have:=b.2;have:=d.2;grind)
 ·rcases b with b|b
  ·omega
  ·exfalso;have:=b.2;grind
 ·rcases b with b|b<;>rcases d with d|d<;>first|omega|(exfalso;have:=b.2;have:=d.2;grind)
 ·rw[e,f]
 ·rcases b with b|b
  ·omega
  ·exfalso;have:=b.2;grind
 ·rcases d with d|d
  ·omega
  ·exfalso;have:=d.2;grind
 ·rcases d with d|d
  ·omega
  ·exfalso;have:=d.2;grind
 ·rw[e,f]
structure Cor(P Q:Nat->V)(n m:Nat)(T:List (Nat×Nat))(k:Nat)(x y p q:Nat×Nat):Prop where
 out:StepOk P Q n m x y
 st:Stp P Q n m x y
 pre:T[(k+T.length-1)%T.length]? = some p
 inn:StepOk P Q n m p q
 ist:Stp P Q n m p q
 same:at2 P Q q=at2 P Q x
 turn:0<xr (gw P Q p q) (gw P Q x y)
def yfg(d:Poly P n)(e:Poly Q m):at2 P Q (n,m)=at2 P Q (0,0):=by
 have a:=d.per 0;have b:=e.per 0;rw[Yz] at a b;unfold at2;rw[a,b]
def Tr.cor(d:Poly P n)(f:Poly Q m){T:List (Nat×Nat)}(h:Tr P Q n m (0,0) T){k:Nat}{x:Nat×Nat}(l:T[k]? = some x):∃y p q,Cor P Q n m T k x y p q:=by
 have A:=d.three;obtain⟨y,I,a,b,S,_⟩:=h.get l
 have O:=zku d f I a b S;have B:k<T.length:=by
  rcases Yf k T.length with h|h
  ·exact h
  ·rw[Yn h] at l;cases l
 rcases Wv k with e|e
 ·subst e;have z:=h.head (by intro e;have:=congrArg Prod.fst e;dsimp only at this;omega);rw[z] at l;cases l;have s:(0+T.length-1)%T.length=T.length-1:=by rw[Yz];exact Zj vB
  have o:T[T.length-1]? = some (T[T.length-1]):=Zi vB;obtain⟨q,t,u,v,g,r⟩:=h.get o
  have w:q=(n,m):=by
   rcases r with r|r
   ·rw[Yn vB] at r;cases r
   ·exact r.2
  subst w;refine⟨y,_,(n,m),O,S,by rw[s];exact o,zku d f t u v g,g,yfg d f,zvv d f g ?_ ?_⟩
  ·have:=O.fromP
   dsimp only at this |-;rw[Yz] at this;rw[show n+n-1=n-1+n by omega,d.edp];exact this
  ·have:=O.fromQ
   have C:=f.three;dsimp only at this |-;rw[Yz] at this;rw[show m+m-1=m-1+m by omega,f.edp];exact this
 ·have s:(k+T.length-1)%T.length=k-1:=by
   rw[show k+T.length-1=k-1+T.length by omega,Yt];exact Zj vB
  have o:T[k-1]? = some (T[k-1]):=Zi vB;obtain⟨q,t,u,v,g,r⟩:=h.get o
  have w:q=x:=by
   rw[show k-1+1=k by omega] at r;rcases r with r|r
   ·rw[l] at r;cases r;rfl
   ·omega
  subst w;exact⟨y,_,q,O,S,by rw[s];exact o,zku d f t u v g,g,rfl,zvv d f g O.fromP O.fromQ⟩
def Tr.sum{s:Nat×Nat}{l:List (Nat×Nat)}(h:Tr P Q n m s l):∀{k:Nat}{x:Nat×Nat},l[k]? = some x->s.1+s.2+k<=x.1+x.2:=by
 induction h with
 |nil=>intro k x h;cases h
 |@cons s t l I a b S T d=>
  intro k x h;cases k with
  |zero=>cases h;exact Zl _
  |succ k=>
   have r:=d (k:=k) h;have:s.1+s.2+1<=t.1+t.2:=by rcases S with⟨e,_⟩|⟨e,_⟩|⟨e,_⟩<;>rw[e]<;>dsimp only<;>omega
   omega
def yir{u v:V}(h:up u)(k:up v):up (pl u v):=by
 unfold up pl at *;dsimp only;rcases h with h|h<;>rcases k with k|k
 ·exact .inl (by grind)
 ·exact .inl (by grind)
 ·exact .inl (by grind)
 ·exact .inr ⟨by grind,by grind⟩
def ltR_up{a b:V}:ltR a b↔up (mn b a):=by
 unfold ltR up mn;dsimp only;constructor
 ·rintro(h|⟨h,k⟩)
  ·exact .inl (by grind)
  ·exact .inr ⟨by grind,by grind⟩
 ·rintro(h|⟨h,k⟩)
  ·exact .inl (by grind)
  ·exact .inr ⟨by grind,by grind⟩
def pl_0(u:V):pl u (0,0)=u:=by unfold pl;exact Yh (by dsimp only;grind) (by dsimp only;grind)
def pl_0'(u:V):pl (0,0) u=u:=by unfold pl;exact Yh (by dsimp only;grind) (by dsimp only;grind)
def zpy(u:V):mn u u=(0,0):=by unfold mn;exact Yh (by dsimp only;grind) (by dsimp only;grind)
def Tr.shape(f:Poly P n)(g:Poly Q m){T:List (Nat×Nat)}(h:Tr P Q n m (0,0) T):IsShp (T.map (at2 P Q)):=by
 have n3:=f.three;have m3:=g.three;have M:=h.len;dsimp only at M;refine⟨by rw[Zc];omega,λk q0 q D t=>?_,λk a b c A w N O U=>?_⟩
 ·rw[Zh] at D t;rw[h.head (by intro e;have:=congrArg Prod.fst e;dsimp only at this;omega)] at D;cases D;cases l:T[k+1]? with
  |none=>rw[l] at t;cases t
  |some x=>
   rw[l] at t;cases t;obtain⟨y,I,a,b,S,_⟩:=h.get l
   have sm:=h.sum l;dsimp only at sm;rw[ltR_up];have e:mn (at2 P Q x) (at2 P Q (0,0))=pl (mn (P x.1) (P 0)) (mn (Q x.2) (Q 0)):=by
    unfold at2 mn pl;exact Yh (by dsimp only;grind) (by dsimp only;grind)
   rw[e];have H:∀{R:Nat->V}{r i:Nat},Poly R r->i<=r->(i=0\/i=r)/\mn (R i) (R 0)=(0,0)\/up (mn (R i) (R 0)):=λ{R r i} J K=>by
    rcases Wv i with e|e
    ·subst e;exact .inl ⟨.inl rfl,zpy _⟩
    ·rcases Yf i r with k|k
     ·exact .inr (J.low i e k)
     ·have:i=r:=by omega
      subst this;have q:=J.per 0;rw[Yz] at q;exact .inl ⟨.inr rfl,by rw[q];exact zpy _⟩
   rcases H f a with⟨o,W⟩|u<;>rcases H g b with⟨v1,X⟩|v
   ·exfalso
    obtain⟨i,j⟩:=x
    dsimp only at *;rcases o with o|o<;>rcases v1 with v1|v1
    ·omega
    ·subst o v1;have:=I.b vB vB
     rcases this with⟨c,d⟩|⟨c,d,_⟩|⟨c,d,_⟩
     ·exact zab f.fst d
     ·exact zab c g.lst'
     ·exact zab f.fst d
    ·subst o v1;have:=I.a vB vB
     rcases this with⟨c,d⟩|⟨c,d,_⟩|⟨c,d,_⟩
     ·exact zab g.fst d
     ·exact zab c f.lst'
     ·exact zab g.fst d
    ·subst o v1;rcases S with⟨_,c,_⟩|⟨_,c,_⟩|⟨_,c,_⟩<;>dsimp only at c<;>omega
   ·rw[W,pl_0'];exact v
   ·rw[X,pl_0];exact u
   ·exact yir u v
 ·rw[Zc] at A;rw[Zh] at A w;cases l:T[k]? with
  |none=>rw[l] at w;cases w
  |some x=>
   rw[l] at w;cases w;obtain⟨y,p,q,C⟩:=h.cor f g l
   rw[C.pre] at A;cases A;obtain⟨Y,E,Z,B⟩:=h.cor f g C.pre
   obtain⟨z,hz,ez⟩:=Zv.mp N
   obtain⟨i,K⟩:=Wn hz
   obtain⟨y2,F,q2,s⟩:=h.cor f g K
   subst ez;have E0:mn (at2 P Q x) (at2 P Q p)=gw P Q p q:=by rw[<-C.same];rfl
   have L:mn (at2 P Q p) (at2 P Q E)=gw P Q E Z:=by rw[<-B.same];rfl
   have G:mn (at2 P Q z) (at2 P Q F)=gw P Q F q2:=by rw[<-s.same];rfl
   have oq:oR (at2 P Q p) (at2 P Q x) (at2 P Q z)=xr (mn (at2 P Q x) (at2 P Q p)) (mn (at2 P Q z) (at2 P Q p)):=by unfold oR xr mn;rfl
   rw[oq];have t1:=B.turn;have yq:gw P Q p Y=gw P Q p q:=by rw[B.st.uniq C.ist]
   refine yck (a':=at2 P Q E) (b':=at2 P Q y) (c':=at2 P Q F) (c'':=at2 P Q y2) ?_ ?_ ?_ ?_ ?_ ?_ ?_ ?_ ?_ ?_ O U
   ·rw[L];exact B.inn.left z
   ·rw[L,E0,<-yq];exact t1
   ·exact C.out.left z
   ·rw[E0];exact C.turn
   ·exact s.out.left p
   ·exact s.out.left x
   ·rw[G];exact s.inn.left p
   ·rw[G];exact s.inn.left x
   ·rw[G];exact s.turn
   ·rw[E0];exact C.inn.left z
end Mg
namespace Mg
open DL
variable{P Q:Nat->V}{n m:Nat}
def bend(P Q:Nat->V)(n m i j:Nat):Rat:=if j<m then(if i<n then xr (ed P i) (ed Q j) else -1) else 1
def nxt(P Q:Nat->V)(n m:Nat)(s:Nat×Nat):Nat×Nat:=(if 0<=bend P Q n m s.1 s.2 then s.1+1 else s.1,if bend P Q n m s.1 s.2<=0 then s.2+1 else s.2)
def walk(P Q:Nat->V)(n m:Nat):Nat->Nat×Nat->List (Nat×Nat)
 |0,_=>[]
 |k+1,s=>if s.1<n\/s.2<m then s::walk P Q n m k (nxt P Q n m s) else []
def zxx{s:Nat×Nat}(f:s.1<=n)(g:s.2<=m)(h:s.1<n\/s.2<m):Stp P Q n m s (nxt P Q n m s):=by
 obtain⟨i,j⟩:=s
 unfold nxt Stp bend;dsimp only at *;by_cases d:j<m
 ·rw[if_pos d];by_cases e:i<n
  ·rw[if_pos e];rcases zld (xr (ed P i) (ed Q j)) 0 with k|k|k
   ·rw[if_neg (by grind),if_pos (by grind)];exact .inr (.inl ⟨rfl,d,.inr ⟨e,k⟩⟩)
   ·rw[if_pos (by grind),if_pos (by grind)];exact .inr (.inr ⟨rfl,e,d,k⟩)
   ·rw[if_pos (by grind),if_neg (by grind)];exact .inl ⟨rfl,e,.inr ⟨d,k⟩⟩
  ·rw[if_neg e,if_neg vA,if_pos vA];exact .inr (.inl ⟨rfl,d,.inl vB⟩)
 ·rw[if_neg d,if_pos vA,if_neg vA];exact .inl ⟨rfl,by omega,.inl vB⟩
theorem zvn(g:Poly P n)(l:Poly Q m):∀(k:Nat){s:Nat×Nat},Inv P Q n m s.1 s.2->s.1<=n->s.2<=m->n+m<=k+s.1+s.2->Tr P Q n m s (walk P Q n m k s)
 |0,s,I,d,f,h=>by
  have:s=(n,m):=Yh (by dsimp only;omega) (by dsimp only;omega)
  subst this;exact .nil
 |k+1,s,I,d,f,h=>by
  unfold walk;by_cases c:s.1<n\/s.2<m
  ·rw[if_pos c];have S:=zxx (P:=P) (Q:=Q) d f c;have O:=zku g l I d f S;have b:(nxt P Q n m s).1<=n/\(nxt P Q n m s).2<=m/\s.1+s.2+1<=(nxt P Q n m s).1+(nxt P Q n m s).2:=by
    rcases S with⟨e,a,_⟩|⟨e,a,_⟩|⟨e,a,o,_⟩<;>rw[e]<;>dsimp only<;>omega
   exact .cons I d f S (zvn g l k O.inv b.1 b.2.1 vB)
  ·rw[if_neg c];have:s=(n,m):=Yh (by dsimp only;omega) (by dsimp only;omega)
   subst this;exact .nil
def zvo(d:Poly P n)(e:Poly Q m){k:Nat}(h:n+m<=k):Tr P Q n m (0,0) (walk P Q n m k (0,0)):=
 zvn d e k ⟨λh=>by omega,λh=>by omega⟩ (Yj _) (Yj _) (by dsimp only;omega)
def rnd(l:List V)(i:Nat):V:=l.getD (i%l.length) (0,0)
def zaj{l:List V}(h:0<l.length)(i:Nat):l[i%l.length]? = some (rnd l i):=by
 unfold rnd;have:=Wp i h
 rw[Z1,Zi this];rfl
def B8{l:List V}(h:0<l.length)(i:Nat):rnd l i∈l:=Yr (zaj h i)
def zlb{l:List V}(d:l.Nodup)(h:0<l.length){i j:Nat}(e:rnd l i=rnd l j):i%l.length=j%l.length:=by
 have a:=zaj h i;have b:=zaj h j;have f:=Wp i h;rw[<-e,<-a] at b;exact((List.getElem?_inj f d).mp b.symm)
def zvf(u:V):xr u u=0:=by unfold xr;grind
def xr_0(u:V):xr u (0,0)=0:=by unfold xr;grind
def yma{e f d:V}(l:up e)(m:up (ng f))(hD:0<xr f e)(a:0<=xr f d)(b:0<=xr e d)(h:up (ng d)):False:=by
 have n:xr f e*d.1=xr f d*e.1+xr e d*(ng f).1:=by unfold xr ng;grind
 have r:xr f e*d.2=xr f d*e.2+xr e d*(ng f).2:=by unfold xr ng;grind
 generalize ng f=g at *;generalize xr f e=D at *;generalize xr f d=x at *;generalize xr e d=y at *;have o:=up_1 l;have p:=up_1 m;have s:=Zn a o;have t:=Zn b p;have u:0<=d.1:=zad hD (by grind);unfold up ng at h;dsimp only at h;rcases h with h|⟨h,q⟩
 ·grind
 ·have z:d.1=0:=by grind
  rw[z] at n;have v:x*e.1=0:=by grind
  have w:y*g.1=0:=by grind
  have A:0<=x*e.2:=by
   rcases l with k|⟨_,k⟩
   ·have:x=0:=zbn k (by grind)
    rw[this];grind
   ·exact Zn a (Zy k)
  have B:0<=y*g.2:=by
   rcases m with k|⟨_,k⟩
   ·have:y=0:=zbn k (by grind)
    rw[this];grind
   ·exact Zn b (Zy k)
  have:0<=d.2:=zad hD (by grind)
  grind
def zcs{l:List V}(h:IsShp l)(r:l.Nodup):Poly (rnd l) l.length:=by
 have v:=h.three;have f:0<l.length:=by omega
 have per:∀i,rnd l (i+l.length)=rnd l i:=λi=>by unfold rnd;rw[Yt]
 have s:∀i k,rnd l k≠rnd l i->rnd l k≠rnd l (i+1)->0<oR (rnd l i) (rnd l (i+1)) (rnd l k):=λi k o p=>by
  refine h.conv ((i+1)%l.length) _ _ _ ?_ (zaj f (i+1)) (B8 f k) o p;have:((i+1)%l.length+l.length-1)%l.length=i%l.length:=by
   have a:=Wp (i+1) f;have e:(i+1)%l.length+l.length-1=(i+1)%l.length+(l.length-1):=by omega
   rw[e,Wt,show i+1+(l.length-1)=i+l.length by omega,Yt]
  rw[this];exact zaj f i
 have t:∀a b c:V,oR a b c=xr (mn b a) (mn c a):=λa b c=>by unfold oR xr mn;rfl
 have conv:∀i k,0<=xr (mn (rnd l (i+1)) (rnd l i)) (mn (rnd l k) (rnd l i)):=λi k=>by
  by_cases o:rnd l k=rnd l i
  ·rw[o,zpy,xr_0];exact Wm
  ·by_cases p:rnd l k=rnd l (i+1)
   ·rw[p,zvf];exact Wm
   ·have:=s i k o p
    rw[t] at this;exact Zy this
 have n:∀i,rnd l (i+1)≠rnd l i:=λi e=>by
  have:=zlb r f e
  have a:=Wp i f;rw[<-Wt] at this;rcases Yf (i%l.length+1) l.length with k|k
  ·rw[Zj k] at this;omega
  ·rw[show i%l.length+1=l.length by omega,Jh] at this;omega
 have q:∀i,rnd l (i+2)≠rnd l i:=λi e=>by
  have:=zlb r f e
  have a:=Wp i f;rw[<-Wt] at this;rcases Yf (i%l.length+2) l.length with k|k
  ·rw[Zj k] at this;omega
  ·rw[show i%l.length+2=i%l.length+2-l.length+l.length by omega,Yt,Zj vB] at this;omega
 have g:∀i,0<xr (mn (rnd l (i+1)) (rnd l i)) (mn (rnd l (i+2)) (rnd l (i+1))):=λi=>by
  have:=s i (i+2) (q i) (n (i+1))
  rw[t] at this;have e:xr (mn (rnd l (i+1)) (rnd l i)) (mn (rnd l (i+2)) (rnd l (i+1)))=xr (mn (rnd l (i+1)) (rnd l i)) (mn (rnd l (i+2)) (rnd l i)):=by
   generalize rnd l (i+1)=b;generalize rnd l (i+2)=c;unfold xr mn;grind
  rw[e];exact this
 have low:∀k,0<k->k<l.length->up (mn (rnd l k) (rnd l 0)):=λk D w=>by
  have a:=zaj f 0;have b:=zaj f k;rw[U5] at a;rw[Zj w] at b;rw[show k=k-1+1 by omega] at b;rw[<-ltR_up];have:=h.first (k-1) _ _ a b
  rw[show k-1+1=k by omega] at this;exact this
 have m:∀i,up (mn (rnd l (i+1)) (rnd l i))\/up (ng (mn (rnd l (i+1)) (rnd l i))):=λi=>by
  rcases ymf (rnd l i) (rnd l (i+1)) with k|k|k
  ·exact .inl (ltR_up.mp k)
  ·exact absurd k.symm (n i)
  ·refine .inr ?_;have:=ltR_up.mp k
   have e:ng (mn (rnd l (i+1)) (rnd l i))=mn (rnd l i) (rnd l (i+1)):=by
    unfold ng mn;exact Yh (by dsimp only;grind) (by dsimp only;grind)
   rw[e];exact this
 refine⟨v,per,conv,g,low 1 vB vB,?_,m,?_,low⟩
 ·have e:=per 0;rw[Yz] at e;rw[e];have:=low (l.length-1) vB vB
  have e:ng (mn (rnd l 0) (rnd l (l.length-1)))=mn (rnd l (l.length-1)) (rnd l 0):=by
   unfold ng mn;exact Yh (by dsimp only;grind) (by dsimp only;grind)
  rw[e];exact this
 ·intro i z a;rcases m (i+1) with u|u
  ·exfalso
   have A:=low (i+1) vB z;have B:=conv (i+1) 0;have C:=conv i 0;refine yma (d:=mn (rnd l 0) (rnd l (i+1))) u a (g i) ?_ B ?_
   ·have e:xr (mn (rnd l (i+1)) (rnd l i)) (mn (rnd l 0) (rnd l (i+1)))=xr (mn (rnd l (i+1)) (rnd l i)) (mn (rnd l 0) (rnd l i)):=by
     generalize rnd l (i+1)=b;generalize rnd l 0=c;unfold xr mn;grind
    rw[e];exact C
   ·have e:ng (mn (rnd l 0) (rnd l (i+1)))=mn (rnd l (i+1)) (rnd l 0):=by
     unfold ng mn;exact Yh (by dsimp only;grind) (by dsimp only;grind)
    rw[e];exact A
  ·exact u
def sumW(l r:List V):List (Nat×Nat):=walk (rnd l) (rnd r) l.length r.length (l.length+r.length) (0,0)
def sumL(l r:List V):List V:=(sumW l r).map (at2 (rnd l) (rnd r))
def zwh{l r:List V}(d:IsShp l)(e:l.Nodup)(f:IsShp r)(g:r.Nodup):IsShp (sumL l r):=
 (zvo (zcs d e) (zcs f g) (Zl _)).shape (zcs d e) (zcs f g)
end Mg
namespace Mg
open DL
def zwi{l r:List V}(d:0<l.length)(f:0<r.length){c:V}(h:c∈sumL l r):∃u,u∈l/\∃v,v∈r/\c=pl u v:=by
 obtain⟨s,_,e⟩:=Zv.mp h
 exact⟨_,B8 d s.1,_,B8 f s.2,e.symm⟩
def zlj{l:List V}{c:V}(h:c∈l):∃k,rnd l k=c:=by
 obtain⟨k,d⟩:=Wn h
 have e:k<l.length:=by
  rcases Yf k l.length with h|h
  ·exact h
  ·rw[Yn h] at d;cases d
 refine⟨k,?_⟩
 have:=zaj (by omega:0<l.length) k
 rw[Zj e,d] at this;exact(Zw this).symm
def yji{l r:List V}(m:IsShp l)(t:l.Nodup)(n:IsShp r)(w:r.Nodup){k:Nat}{a b:V}(f:(sumL l r)[(k+(sumL l r).length-1)%(sumL l r).length]? = some a)(d:(sumL l r)[k]? = some b):
  ∃u,u∈l/\∃v,v∈r/\a=pl u v/\(∀c∈l,0<=xr (mn b a) (mn c u))/\(∀c∈r,0<=xr (mn b a) (mn c v)):=by
 have o:=zcs m t;have s:=zcs n w;have A:=m.three;have B:=n.three;have T:=zvo o s (Zl _);unfold sumL at f d;rw[Zc,Zh] at f;rw[Zh] at d;cases g:(sumW l r)[k]? with
 |none=>rw[g] at d;cases d
 |some x=>
  rw[g] at d;cases d;obtain⟨y,p,q,C⟩:=T.cor o s g
  have z:(sumW l r)[(k+(sumW l r).length-1)%(sumW l r).length]? = some p:=C.pre;rw[z] at f;cases f;have E0:mn (at2 (rnd l) (rnd r) x) (at2 (rnd l) (rnd r) p)=gw (rnd l) (rnd r) p q:=by rw[<-C.same];rfl
  refine⟨_,B8 vB p.1,_,B8 vB p.2,rfl,λc h=>?_,λc h=>?_⟩
  ·obtain⟨i,e⟩:=zlj h
   rw[E0,<-e];exact C.inn.lowP i
  ·obtain⟨i,e⟩:=zlj h
   rw[E0,<-e];exact C.inn.lowQ i
theorem zre{P Q:Nat->V}{n m:Nat}:∀(k:Nat) (s:Nat×Nat),(walk P Q n m k s).length<=k
 |0,_=>Zl _
 |k+1,s=>by
  unfold walk;by_cases c:s.1<n\/s.2<m
  ·rw[if_pos c,Zr];have:=zre (P:=P) (Q:=Q) (n:=n) (m:=m) k (nxt P Q n m s);omega
  ·rw[if_neg c];exact Yj _
def yjj(l r:List V):(sumL l r).length<=l.length+r.length:=by unfold sumL;rw[Zc];exact zre _ _
end Mg
namespace Mg
open DL
def oR_xr(a b c:V):oR a b c=xr (mn b a) (mn c b):=by unfold oR xr mn;grind
def zwy{l:List V}(h:IsShp l)(i:Nat){c:V}(f:c∈l)(g:c≠rnd l i)(m:c≠rnd l (i+1)):0<xr (mn (rnd l (i+1)) (rnd l i)) (mn c (rnd l (i+1))):=by
 have d:0<l.length:=by have:=h.three;omega
 have n:=zaj d i;have o:=zaj d (i+1);rw[<-oR_xr];refine h.conv ((i+1)%l.length) _ _ c ?_ o f g m;rw[<-n];congr 1
 have e:((i+1)%l.length+l.length-1)%l.length=(i+1+l.length-1)%l.length:=by
  rw[Jq vB,Wt,<-Jq vB]
 rw[e,show i+1+l.length-1=i+l.length by omega,Yt]
def zzk{l:List V}(h:IsShp l){k:Nat}(f:k+1<l.length):rnd l (k+1)≠rnd l 0:=λe=>by
 have d:0<l.length:=by omega
 have a:=zaj d 0;have b:=zaj d (k+1);rw[U5] at a;rw[Zj f] at b;have:=h.first k _ _ a b
 rw[e] at this;exact zyo _ this
def zlc{l:List V}(i:Nat):rnd l (i+l.length)=rnd l i:=by unfold rnd;rw[Yt]
def other{l:List V}(h:IsShp l)(a:V):∃c,c∈l/\c≠a:=by
 have d:=h.three;by_cases e:rnd l 0=a
 ·exact⟨rnd l 1,B8 vB 1,λz=>zzk h (show 0+1<l.length by omega) (by rw[e];exact z)⟩
 ·exact⟨_,B8 vB 0,e⟩
def ylq{l:List V}(h:IsShp l)(i:Nat):rnd l (i+1)≠rnd l i:=λe=>by
 obtain⟨c,f,d⟩:=other h (rnd l i)
 have:=zwy h i f d (by rw[e];exact d)
 rw[e] at this;unfold xr mn at this;grind
def nx_uq{l r:List V}(f:IsShp l)(g:IsShp r)(h:∀c∈l,c∈r)(d:∀c∈r,c∈l){i j:Nat}(e:rnd l i=rnd r j):rnd l (i+1)=rnd r (j+1):=by
 refine Yu λm=>?_;have n:0<l.length:=by have:=f.three;omega
 have o:0<r.length:=by have:=g.three;omega
 have a:=zwy f i (d _ (B8 o (j+1))) (by rw[e];exact ylq g j) (Wz m);have b:=zwy g j (h _ (B8 n (i+1))) (by rw[<-e];exact ylq f i) m;rw[e] at a;have z:xr (mn (rnd l (i+1)) (rnd r j)) (mn (rnd r (j+1)) (rnd l (i+1))) = - xr (mn (rnd r (j+1)) (rnd r j)) (mn (rnd l (i+1)) (rnd r (j+1))):=by unfold xr mn;grind
 grind
theorem zya{l r:List V}(g:IsShp l)(h:IsShp r)(f:∀c∈l,c∈r)(d:∀c∈r,c∈l){i j:Nat}(e:rnd l i=rnd r j):∀t,rnd l (i+t)=rnd r (j+t)
 |0=>e
 |t+1=>nx_uq g h f d (zya g h f d e t)
def nodup{l:List V}(h:IsShp l):l.Nodup:=by
 refine Vr.mpr (Qh.mpr λi j d f n e=>?_);have g:0<l.length:=by omega
 have gi:=zaj g i;have m:=zaj g j;rw[Zj d,Zi d] at gi;rw[Zj f,Zi f] at m;have o:rnd l i=rnd l j:=by rw[<-Zw gi,<-Zw m,e]
 have:=zya h h (λ_ z=>z) (λ_ z=>z) o (l.length-j)
 rw[show j+(l.length-j)=0+l.length by omega,zlc] at this;obtain⟨k,p⟩:∃k,i+(l.length-j)=k+1:=⟨i+(l.length-j)-1,by omega⟩
 rw[p] at this;exact zzk h vB this
def yhx{l r:List V}(e:IsShp l)(f:IsShp r)(g:∀c∈l,c∈r)(d:∀c∈r,c∈l):l=r:=by
 have p:0<l.length:=by have:=e.three;omega
 have q:0<r.length:=by have:=f.three;omega
 have low:∀{m:List V},IsShp m->∀c∈m,c≠rnd m 0->ltR (rnd m 0) c:=λ{m} s c u h=>by
  have v:0<m.length:=by have:=s.three;omega
  obtain⟨k,n⟩:=Wn u
  have a:=zaj v 0;rw[U5] at a;cases k with
  |zero=>rw[n] at a;exact absurd (Zw a) h
  |succ k=>exact s.first k _ _ a n
 have w:rnd l 0=rnd r 0:=Yu λh=>by
  have a:=low e _ (d _ (B8 q 0)) (Wz h);have b:=low f _ (g _ (B8 p 0)) h;exact zyo _ (zyn a b)
 have all:=zya e f g d w;have len:∀{l r:List V},IsShp l->IsShp r->(∀t,rnd l (0+t)=rnd r (0+t)) -> ¬l.length<r.length:=λ{l r} e f all lt=>by
  have:=all l.length
  rw[zlc,show rnd l 0=rnd r 0 from all 0,Yz] at this;obtain⟨k,n⟩:∃k,l.length=k+1:=⟨l.length-1,by have:=e.three;omega⟩
  rw[n] at this lt;exact zzk f lt this.symm
 have z:l.length=r.length:=by
  have a:=len e f all;have b:=len f e λt=>(all t).symm
  omega
 refine Ka λi=>?_;rcases Yf i l.length with o|o
 ·have a:=zaj p i;have b:=zaj q i;rw[Zj o] at a;rw[Zj vB] at b;have:=all i
  rw[Yz] at this;rw[a,b,this]
 ·rw[Yn o,Yn vB]
def Lo(l:List V)(d u:V):Prop:=u∈l/\∀c∈l,0<=xr d (mn c u)
theorem lo_of{l:List V}(d:V):∀{m:List V},m≠[]->(∀c∈m,c∈l)->∃u,u∈l/\∀c∈m,0<=xr d (mn c u)
 |[x],_,s=>⟨x,s x (.head _),λc f=>by rw[Zp.mp f];unfold xr mn;grind⟩
 |x::y::m,_,s=>by
  obtain⟨u,g,a⟩:=lo_of d (m:=y::m) vC λc f=>s c (.tail _ f)
  by_cases k:0<=xr d (mn x u)
  ·refine⟨u,g,λc f=>?_⟩
   rcases Zg.mp f with e|f
   ·rw[e];exact k
   ·exact a c f
  ·refine⟨x,s x (.head _),λc f=>?_⟩
   rcases Zg.mp f with e|f
   ·rw[e];unfold xr mn;grind
   ·have:=a c f
    unfold xr mn at *;grind
def lo_ex{l:List V}(h:0<l.length)(d:V):∃u,Lo l d u:=by
 obtain⟨u,a,b⟩:=lo_of (l:=l) d (m:=l) (λe=>by rw[e] at h;exact absurd h vA) λ_ z=>z
 exact⟨u,a,b⟩
def cone{f g d w:V}(h:0<xr f g)(a:0<=xr d g)(b:0<=xr f d)(l:0<=xr f w)(m:0<=xr g w):0<=xr d w:=by
 refine zad h ?_;have e:xr d w*xr f g=xr d g*xr f w+xr f d*xr g w:=by unfold xr;grind
 rw[e];have:=Zn a l
 have:=Zn b m
 grind
def side{l:List V}(h:IsShp l)(i:Nat):∀c∈l,0<=xr (mn (rnd l (i+1)) (rnd l i)) (mn c (rnd l (i+1))):=λc f=>by
 by_cases d:c=rnd l i
 ·rw[d];unfold xr mn;grind
 ·by_cases e:c=rnd l (i+1)
  ·rw[e];unfold xr mn;grind
  ·exact Zy (zwy h i f d e)
def side'{l:List V}(h:IsShp l)(i:Nat):∀c∈l,0<=xr (mn (rnd l (i+1)) (rnd l i)) (mn c (rnd l i)):=λc d=>by
 have:=side h i c d
 unfold xr mn at *;grind
def turnp{l:List V}(h:IsShp l)(i:Nat):0<xr (mn (rnd l (i+1)) (rnd l i)) (mn (rnd l (i+2)) (rnd l (i+1))):=by
 have f:=h.three;have d:0<l.length:=by omega
 refine zwy h i (B8 d (i+2)) (λe=>?_) (ylq h (i+1));have:=zlb (nodup h) d e
 have g:=Wp i d;rw[Uo] at this;rcases Yf (i%l.length+2) l.length with k|k
 ·rw[Zj (show 2<l.length by omega),Zj k] at this;omega
 ·rw[Zj (show 2<l.length by omega),show i%l.length+2=(i%l.length+2-l.length)+l.length by omega,Yt,Zj vB] at this;omega
end Mg
namespace Mg
open DL
def sumN{l r:List V}(d:IsShp l)(e:IsShp r):IsShp (sumL l r):=zwh d (nodup d) e (nodup e)
def yla{n i:Nat}(h:0<n):((i+1)%n+n-1)%n=i%n:=by
 rw[Jq vB,Wt,<-Jq vB,show i+1+n-1=i+n by omega,Yt]
def low2{l r:List V}(d:IsShp l)(f:IsShp r)(i:Nat):∃u v,u∈l/\v∈r/\rnd (sumL l r) i=pl u v/\(∀c∈l,0<=xr (mn (rnd (sumL l r) (i+1)) (rnd (sumL l r) i)) (mn c u))/\∀c∈r,0<=xr (mn (rnd (sumL l r) (i+1)) (rnd (sumL l r) i)) (mn c v):=by
 have g:0<(sumL l r).length:=by have:=(sumN d f).three;omega
 have h:=zaj g i;have m:=zaj g (i+1);obtain⟨u,n,v,o,e,a,b⟩:=yji d (nodup d) f (nodup f) (k:=(i+1)%(sumL l r).length) (by rw[yla g];exact h) m
 exact⟨u,v,n,o,e,a,b⟩
def zpf{l r:List V}(h:IsShp l)(m:IsShp r)(d:V):∃u v,Lo l d u/\Lo r d v/\Lo (sumL l r) d (pl u v):=by
 have A:=sumN h m;have n:0<(sumL l r).length:=by have:=A.three;omega
 obtain⟨b,B,lo⟩:=lo_ex n d
 obtain⟨k,I⟩:=zlj B
 have C:rnd (sumL l r) (k+(sumL l r).length-1+1)=b:=by rw[show k+(sumL l r).length-1+1=k+(sumL l r).length by omega,zlc,I]
 generalize k+(sumL l r).length-1=i at C;obtain⟨D,E,_,_,J,o,s⟩:=low2 h m i
 obtain⟨u,v,F,G,e,t,w⟩:=low2 h m (i+1)
 have tp:=turnp A i;have K:=lo _ (B8 n i);have H:=lo _ (B8 n (i+2));rw[show i+1+1=i+2 from rfl] at t w;rw[C] at o s t w e tp;generalize rnd (sumL l r) i=p at *;generalize rnd (sumL l r) (i+2)=q at *;have O:=o u F;have P:=s v G;have z:xr (mn b p) (mn u D)+xr (mn b p) (mn v E)=0:=by
  have:xr (mn b p) (mn b p)=0:=zvf _
  rw[e,J] at this |-;unfold xr mn pl at *;grind
 have Q:xr (mn b p) (mn u D)=0:=by grind
 have R:xr (mn b p) (mn v E)=0:=by grind
 have L:∀c∈l,0<=xr (mn b p) (mn c u):=λc f=>by
  have:=o c f
  unfold xr mn at *;grind
 have M:∀c∈r,0<=xr (mn b p) (mn c v):=λc f=>by
  have:=s c f
  unfold xr mn at *;grind
 have g:0<=xr (mn b p) d:=by
  have N:xr (mn b p) d=xr d (mn p b):=by unfold xr mn;grind
  rw[N];exact K
 exact⟨u,v,⟨F,λc f=>cone tp H g (L c f) (t c f)⟩,⟨G,λc f=>cone tp H g (M c f) (w c f)⟩,by rw[<-e];exact⟨B,lo⟩⟩
def Sm(l r:List V):Prop:=∀d,∃b g,Lo l d b/\Lo r d g/\xr d b=xr d g
theorem Sm.symm{l r:List V}(h:Sm l r):Sm r l:=λd=>by
 obtain⟨b,g,x,y,z⟩:=h d
 exact⟨g,b,y,x,z.symm⟩
def yeo{l:List V}{d u v:V}(h:Lo l d u)(k:Lo l d v):xr d u=xr d v:=by
 have a:=h.2 v k.1;have b:=k.2 u h.1;unfold xr mn at *;grind
def Sm.le{l r:List V}(h:Sm l r){d b:V}(f:Lo l d b):∀c∈r,0<=xr d (mn c b):=λc m=>by
 obtain⟨n,g,x,y,z⟩:=h d
 have e:=yeo f x;have:=y.2 c m
 unfold xr mn at *;grind
def Sm.at{l r:List V}(h:Sm l r){d b:V}(e:Lo l d b):∃g,Lo r d g/\xr d g=xr d b:=by
 obtain⟨f,g,x,y,z⟩:=h d
 exact⟨g,y,by rw[<-z];exact(yeo e x).symm⟩
def Sm.sub{l r:List V}(f:IsShp l)(h:Sm l r):∀c∈l,c∈r:=λb m=>by
 have G:0<l.length:=by have:=f.three;omega
 obtain⟨k,A⟩:=zlj m
 have t:rnd l (k+l.length-1+1)=b:=by rw[show k+l.length-1+1=k+l.length by omega,zlc,A]
 generalize k+l.length-1=i at t;have tp:=turnp f i;have o:=side f i;have n:=side' f (i+1);rw[show i+1+1=i+2 from rfl] at n;rw[t] at tp o n;generalize rnd l i=p at *;generalize rnd l (i+2)=q at *;have B:=h.le ⟨m,o⟩;have C:=h.le ⟨m,n⟩;obtain⟨g,s,D⟩:=h.at (d:=pl (mn b p) (mn q b)) (b:=b) ⟨m,λc u=>by
  rw[ztl];have:=o c u
  have:=n c u
  grind⟩
 have H:=B g s.1;have I:=C g s.1;rw[ztl,ztl] at D;have v:xr (mn b p) (mn g b)=0:=by unfold xr mn at *;grind
 have w:xr (mn q b) (mn g b)=0:=by unfold xr mn at *;grind
 have e:g=b:=by
  have E:(g.1-b.1)*xr (mn b p) (mn q b)=0:=by
   have:(g.1-b.1)*xr (mn b p) (mn q b)=(mn b p).1*xr (mn q b) (mn g b)*(-1)+(mn q b).1*xr (mn b p) (mn g b):=by unfold xr mn;grind
   rw[this,v,w];grind
  have F:(g.2-b.2)*xr (mn b p) (mn q b)=0:=by
   have:(g.2-b.2)*xr (mn b p) (mn q b)=(mn b p).2*xr (mn q b) (mn g b)*(-1)+(mn q b).2*xr (mn b p) (mn g b):=by unfold xr mn;grind
   rw[this,v,w];grind
  have z:xr (mn b p) (mn q b)≠0:=by grind
  have J:=(Y7.mp E).resolve_right z;have K:=(Y7.mp F).resolve_right z;exact Yh (by grind) (by grind)
 rw[<-e];exact s.1
def shp_eq{l r:List V}(d:IsShp l)(e:IsShp r)(h:Sm l r):l=r:=yhx d e (h.sub d) (h.symm.sub e)
def zrm{l r:List V}(e:IsShp l)(f:IsShp r):sumL l r=sumL r l:=shp_eq (sumN e f) (sumN f e) λd=>by
 obtain⟨u,v,a,b,c⟩:=zpf e f d
 obtain⟨n,o,g,h,m⟩:=zpf f e d
 refine⟨_,_,c,m,?_⟩
 rw[zvg,zvg,yeo a h,yeo b g];grind
def sc(x:Rat)(q:V):V:=(q.1*x,q.2*x)
def ztk(d q:V)(x:Rat):xr d (sc x q)=x*xr d q:=by unfold xr sc;grind
end Mg
namespace Mg
open DL
end Mg
namespace Mg
open DL
end Mg
namespace Mg
open DL
end Mg
namespace Mg
open DL
variable{P Q:Nat->V}{n m:Nat}
theorem Poly.srt(h:Poly P n){i:Nat}:∀{k:Nat},i<k->k<n->bf (ed P i) (ed P k)
 |0,a,_=>by omega
 |k+1,a,b=>by
  rcases Yf i k with c|c
  ·exact zth (h.srt c vB) (h.next b)
  ·have:i=k:=by omega
   subst this;exact h.next b
end Mg
namespace Mg
open DL
end Mg
namespace Mg
open DL
def IsShp.sized{l:List V}{x:Rat}(o:IsShp l)(m:0<x):IsShp (l.map (sc x)):=by
 refine⟨by rw[Zc];exact o.three,λk a b d g=>?_,λk a b c d g u v A=>?_⟩
 ·rw[Zh] at d g;obtain⟨p,r,e⟩:=Zb.mp d
  obtain⟨q,s,n⟩:=Zb.mp g
  have:=o.first k p q r s
  rw[<-e,<-n];rcases this with h|⟨B,D⟩
  ·refine .inl ?_;show p.1*x<q.1*x;have:=Zq (show 0<q.1-p.1 by grind) m
   grind
  ·refine .inr ⟨by show p.1*x=q.1*x;rw[B],?_⟩;show p.2*x<q.2*x;have:=Zq (show 0<q.2-p.2 by grind) m
   grind
 ·rw[Zc,Zh] at d;rw[Zh] at g;obtain⟨p,r,e⟩:=Zb.mp d
  obtain⟨q,s,n⟩:=Zb.mp g
  obtain⟨z,C,t⟩:=Zv.mp u
  have:=o.conv k p q z r s C (λw=>v (by rw[<-t,w,e])) λw=>A (by rw[<-t,w,n])
  rw[<-e,<-n,<-t];have f:oR (sc x p) (sc x q) (sc x z)=x*x*oR p q z:=by unfold oR sc;grind
  rw[f];exact Zq (Zq m m) this
def IsShp.pushed{l:List V}(o:IsShp l)(m:V):IsShp (l.map (pl m)):=by
 refine⟨by rw[Zc];exact o.three,λk a b d g=>?_,λk a b c d g u v A=>?_⟩
 ·rw[Zh] at d g;obtain⟨p,r,e⟩:=Zb.mp d
  obtain⟨q,s,n⟩:=Zb.mp g
  have:=o.first k p q r s
  rw[<-e,<-n];unfold ltR pl at *;dsimp only;rcases this with h|⟨C,D⟩
  ·exact .inl (by grind)
  ·exact .inr ⟨by grind,by grind⟩
 ·rw[Zc,Zh] at d;rw[Zh] at g;obtain⟨p,r,e⟩:=Zb.mp d
  obtain⟨q,s,n⟩:=Zb.mp g
  obtain⟨z,B,t⟩:=Zv.mp u
  have:=o.conv k p q z r s B (λw=>v (by rw[<-t,w,e])) λw=>A (by rw[<-t,w,n])
  rw[<-e,<-n,<-t];have f:oR (pl m p) (pl m q) (pl m z)=oR p q z:=by unfold oR pl;grind
  rw[f];exact this
end Mg
namespace Mg
open DL
end Mg
namespace Mg
open DL
end Mg
namespace Mg
open DL
variable{P Q:Nat->V}{n m:Nat}
end Mg
namespace Mg
open DL
end Mg
namespace Lb
open DL
abbrev Pt:=Int×Int
def oI(a b c:Pt):Int:=(b.1-a.1)*(c.2-a.2)-(b.2-a.2)*(c.1-a.1)
def yhn(a b c:Pt):oI a b c=oI b c a:=by unfold oI;grind
def Tri:List Pt->Prop
 |[]=>True
 |x::l=>(l.Pairwise λy z=>0<oI x y z)/\Tri l
theorem Tri.get:∀{l:List Pt},Tri l->∀{i j k:Nat}{a b c:Pt},i<j->j<k->l[i]? = some a->l[j]? = some b->l[k]? = some c->0<oI a b c
 |[],_,_,_,_,_,_,_,_,_,h,_,_=>by simp at h
 |x::l,h,i,j,k,a,b,c,g,n,d,e,f=>by
  obtain⟨j,rfl⟩:∃m,j=m+1:=⟨j-1,by omega⟩
  obtain⟨k,rfl⟩:∃m,k=m+1:=⟨k-1,by omega⟩
  rw[We] at e f;cases i with
  |zero=>
   rw[Qs] at d;cases d;obtain⟨o,p⟩:=Zm.mp e
   obtain⟨q,r⟩:=Zm.mp f
   rw[<-p,<-r];exact Qh.mp h.1 j k o q vB
  |succ i=>
   rw[We] at d;exact Tri.get h.2 vB vB d e f
def Tri.conv{l:List Pt}(h:Tri l){k:Nat}{a b c:Pt}(d:l[(k+l.length-1)%l.length]? = some a)(f:l[k]? = some b)(n:c∈l)(g:c≠a)(o:c≠b):0<oI a b c:=by
 obtain⟨m,p,e⟩:=Qr n
 have gc:l[m]? = some c:=by rw[<-e];exact Zi p
 have r:=(Zm.mp f).1;have s:m≠k:=λz=>by rw[z,f] at gc;exact o (Zw gc).symm
 rcases Wv k with z|z
 ·subst z;rw[Zj vB] at d;have mn:m≠0+l.length-1:=λz=>by rw[z,d] at gc;exact g (Zw gc).symm
  rw[yhn];exact h.get (show 0<m by omega) (show m<0+l.length-1 by omega) f gc d
 ·rw[show k+l.length-1=(k-1)+l.length by omega,Yt,Zj vB] at d;have mn:m≠k-1:=λz=>by rw[z,d] at gc;exact g (Zw gc).symm
  rcases Yf m (k-1) with q|q
  ·rw[<-yhn];exact h.get q (show k-1<k by omega) gc d f
  ·exact h.get (show k-1<k by omega) (show k<m by omega) d f gc
def oI_1(a b:Pt):oI a a b=0:=by unfold oI;grind
def oI_2(a b:Pt):oI a b b=0:=by unfold oI;grind
def oI_3(a b:Pt):oI a b a=0:=by unfold oI;grind
def Tri.nodup{l:List Pt}(h:Tri l)(r:3<=l.length):l.Nodup:=by
 refine Vr.mpr (Qh.mpr λi j f n d e=>?_);have g:∀m (o:m<l.length),l[m]? = some l[m]:=λm o=>Zi o
 rcases Yf (j+1) l.length with q|q
 ·have:=h.get d (show j<j+1 by omega) (g i f) (g j n) (g (j+1) q)
  rw[e,oI_1] at this;exact absurd this (Uw _)
 ·rcases Yf (i+1) j with p|p
  ·have:=h.get (show i<i+1 by omega) p (g i f) (g (i+1) vB) (g j n)
   rw[e,oI_3] at this;exact absurd this (Uw _)
  ·have:=h.get (show i-1<i by omega) d (g (i-1) vB) (g i f) (g j n)
   rw[e,oI_2] at this;exact absurd this (Uw _)
theorem Tri.app:∀{l m:List Pt},Tri l->Tri m->(l.Pairwise λx y=>∀z∈m,0<oI x y z)->(∀x∈l,m.Pairwise λy z=>0<oI x y z)->Tri (l++m)
 |[],m,_,h,_,_=>h
 |x::l,m,e,g,n,f=>by
  obtain⟨o,p⟩:=Y9.mp n
  exact⟨Ud.mpr ⟨e.1,f x (.head _),λy d z q=>o y d z q⟩,Tri.app e.2 g p λy d=>f y (.tail _ d)⟩
def low2(x:Int):Pt:=(x,x*x)
def high2(t x:Int):Pt:=(x,t-x*x)
def o_lll(a b c:Int):oI (low2 a) (low2 b) (low2 c)=(b-a)*((c-a)*(c-b)):=by unfold oI low2;grind
def o_hhh(t a b c:Int):oI (high2 t a) (high2 t b) (high2 t c)=(a-b)*((a-c)*(b-c)):=by unfold oI high2;grind
def o_llh(t a b h:Int):oI (low2 a) (low2 b) (high2 t h)=(b-a)*(t-(h*h+(a+b)*h-a*b)):=by unfold oI low2 high2;grind
def o_lhh(t a g h:Int):oI (low2 a) (high2 t h) (high2 t g)=(h-g)*(t-(a*a+(g+h)*a-g*h)):=by unfold oI low2 high2;grind
theorem zvy:∀{d:List Int},d.Pairwise (· < ·)->Tri (d.map low2)
 |[],_=>True.intro
 |x::d,h=>by
  obtain⟨e,f⟩:=Y9.mp h
  refine⟨Ql.mpr ?_,zvy f⟩
  refine Q5 (λ{y z} g l q=>?_) f;have:=e y g
  have:=e z l
  rw[o_lll];exact Wy vB (Wy vB vB)
theorem zrh{t:Int}:∀{d:List Int},d.Pairwise (· > ·)->Tri (d.map (high2 t))
 |[],_=>True.intro
 |x::d,h=>by
  obtain⟨e,f⟩:=Y9.mp h
  refine⟨Ql.mpr ?_,zrh f⟩
  refine Q5 (λ{y z} g l q=>?_) f;have:=e y g
  have:=e z l
  rw[o_hhh];exact Wy vB (Wy vB vB)
def cube{m h a b:Int}(d : -m<=h)(f:h<=m)(g : -m<=a)(l:a<=m)(n : -m<=b)(o:b<=m):h*h+(a+b)*h-a*b<=2*(m*m):=by
 have p:=Y4 (show 0<=m+h by omega) (Y4 (show 0<=m-a by omega) (show 0<=m-b by omega));have r:=Y4 (show 0<=m-h by omega) (Y4 (show 0<=m+a by omega) (show 0<=m+b by omega));have s:=Y4 (show 0<=2*m by omega) (Y4 (show 0<=m-h by omega) (show 0<=m+h by omega));have e:2*m*(2*(m*m)-(h*h+(a+b)*h-a*b))=(m+h)*((m-a)*(m-b))+(m-h)*((m+a)*(m+b))+2*m*((m-h)*(m+h)):=by grind
 by_cases z:m=0
 ·have:h=0:=by omega
  have:a=0:=by omega
  have:b=0:=by omega
  subst_vars
  decide
 ·refine Ky.mp λq=>?_;have:=V5 (show 0<2*m by omega) (show 2*(m*m)-(h*h+(a+b)*h-a*b)<0 by omega)
  omega
def tri_bows{t m:Int}{n o:List Int}(r:n.Pairwise (· < ·))(s:o.Pairwise (· > ·))(d:∀x∈n,-m<=x/\x<=m)(by_:∀y∈o,-m<=y/\y<=m)(B:2*(m*m)<t):Tri (n.map low2++o.map (high2 t)):=by
 refine Tri.app (zvy r) (zrh s) (Ql.mpr (Q5 (λ{a b} f u q z w=>?_) r)) λp A=>Ql.mpr ?_
 ·obtain⟨h,l,e⟩:=Zv.mp w
  rw[<-e,o_llh];have:=cube (by_ h l).1 (by_ h l).2 (d a f).1 (d a f).2 (d b u).1 (d b u).2
  exact Wy vB vB
 ·obtain⟨a,f,e⟩:=Zv.mp A
  refine Q5 (λ{h g} l v q=>?_) s;rw[<-e,o_lhh];have:=cube (d a f).1 (d a f).2 (by_ g v).1 (by_ g v).2 (by_ h l).1 (by_ h l).2
  exact Wy vB vB
def crP(u v:Pt):Int:=u.1*v.2-u.2*v.1
def tri_box{u v:Pt}(h:0<crP u v):Tri [(0,0),u,(u.1+v.1,u.2+v.2),v]:=by
 unfold crP at h;simp only[Tri,oI,Y9,Zg,Zu,or_false,forall_eq_or_imp,forall_eq,List.Pairwise.nil,and_true,true_and,false_implies,implies_true];refine⟨⟨⟨?_,?_⟩,?_⟩,?_⟩<;>grind
def tri_3{u v:Pt}(h:0<crP u v):Tri [(0,0),u,v]:=by
 unfold crP at h;simp only[Tri,oI,Y9,Zg,Zu,or_false,forall_eq_or_imp,forall_eq,List.Pairwise.nil,and_true,true_and,false_implies,implies_true];grind
def tri_6{u v:Pt}(h:0<crP u v):Tri [(0,0),u,(u.1+(u.1+v.1),u.2+(u.2+v.2)),(2*(u.1+v.1),2*(u.2+v.2)),(v.1+(u.1+v.1),v.2+(u.2+v.2)),v]:=by
 unfold crP at h;simp only[Tri,oI,Y9,Zg,Zu,or_false,forall_eq_or_imp,forall_eq,List.Pairwise.nil,and_true,true_and,false_implies,implies_true];refine⟨⟨⟨?_,?_,?_,?_⟩,⟨?_,?_,?_⟩,⟨?_,?_⟩,?_⟩,⟨⟨?_,?_,?_⟩,⟨?_,?_⟩,?_⟩,⟨⟨?_,?_⟩,?_⟩,?_⟩<;>grind
def spot2(b f g s:Int)(p:Pt):Rat×Rat:=(Rat.divInt (p.1*b+f) s,Rat.divInt (p.2*b+g) s)
def ziz(x y s:Int):Rat.divInt x s-Rat.divInt y s=((x-y:Int):Rat)*(s:Rat)⁻¹:=by
 rw[Jp,Jp,Kn,Kn,W8];grind
def s_inv{s:Int}(d:1<=s):0<(s:Rat)⁻¹:=Jt.mpr (by have:((0:Int):Rat)<(s:Rat):=Z6.mpr vB;exact this)
def ydu{b f g s:Int}(m:1<=b)(l:1<=s){a c d:Pt}(h:0<oI a c d):0<oR (spot2 b f g s a) (spot2 b f g s c) (spot2 b f g s d):=by
 unfold oR spot2;dsimp only;rw[ziz,ziz,ziz,ziz];have k:=s_inv l;generalize (s:Rat)⁻¹=t at *;have e:(((c.1*b+f)-(a.1*b+f):Int):Rat)*t*((((d.2*b+g)-(a.2*b+g):Int):Rat)*t)-(((c.2*b+g)-(a.2*b+g):Int):Rat)*t*((((d.1*b+f)-(a.1*b+f):Int):Rat)*t)=t*t*(((b*b*oI a c d:Int)):Rat):=by
  unfold oI;simp only[W8,Z4,Jb];grind
 rw[e];have q:(0:Int)<b*b*oI a c d:=Wy (Wy vB vB) h;exact Zq (Zq k k) (Z6.mpr q)
def ltP(a b:Pt):Prop:=a.1<b.1\/(a.1=b.1/\a.2<b.2)
def yeh{b f g s:Int}(o:1<=b)(d:1<=s){p q:Pt}(h:ltP p q):ltR (spot2 b f g s p) (spot2 b f g s q):=by
 have k:=s_inv d;have up:∀x y c:Int,x<y->Rat.divInt (x*b+c) s<Rat.divInt (y*b+c) s:=λx y c z=>by
  have e:=ziz (y*b+c) (x*b+c) s;have w:(0:Int)<(y*b+c)-(x*b+c):=by
   have:=Wy (show 0<y-x by omega) (show 0<b by omega)
   rw[Int.sub_mul] at this;omega
  have l:(0:Rat)<(((y*b+c)-(x*b+c):Int):Rat):=Z6.mpr w;have:=Zq l k
  grind
 unfold ltR spot2;rcases h with h|⟨m,n⟩
 ·exact .inl (up _ _ _ h)
 ·exact .inr ⟨by rw[m],up _ _ _ n⟩
structure LoP(R:List Pt)(k:Nat):Prop where
 lt:k<R.length
 low:∀j p q,j≠k->R[k]? = some p->R[j]? = some q->ltP p q
def shp2{R:List Pt}{k:Nat}(h:Tri R)(u:3<=R.length)(l:LoP R k){b f g s:Int}(m:1<=b)(n:1<=s):IsShp ((rot R k).map (spot2 b f g s)):=by
 rw[zwx];refine IsShp.of_rot (by rw[Zc];exact u) (λk a I c o d v w A=>?_) ⟨by rw[Zc];exact l.lt,λj p q B r t=>?_⟩
 ·rw[Zh,Zc] at o;rw[Zh] at d;obtain⟨J,C,rfl⟩:=Zb.mp o
  obtain⟨K,D,rfl⟩:=Zb.mp d
  obtain⟨L,e,rfl⟩:=Zv.mp v
  exact ydu m n (h.conv C D e (λz=>w (by rw[z])) λz=>A (by rw[z]))
 ·rw[Zh] at r t;obtain⟨E,F,rfl⟩:=Zb.mp r
  obtain⟨G,H,rfl⟩:=Zb.mp t
  exact yeh m n (l.low j E G B F H)
def ymg(a b:Pt):ltP a b\/a=b\/ltP b a:=by
 unfold ltP;rcases Bl a.1 b.1 with h|h|h
 ·exact .inl (.inl h)
 ·rcases Bl a.2 b.2 with k|k|k
  ·exact .inl (.inr ⟨h,k⟩)
  ·exact .inr (.inl (Yh h k))
  ·exact .inr (.inr (.inr ⟨h.symm,k⟩))
 ·exact .inr (.inr (.inl h))
def ltP_trans{a b c:Pt}(d:ltP a b)(e:ltP b c):ltP a c:=by
 unfold ltP at *;omega
def ltP_irr(a:Pt):¬ltP a a:=by unfold ltP;omega
theorem lo_ex:∀{R:List Pt},R.Nodup->0<R.length->∃k,LoP R k
 |[],_,h=>absurd h vA
 |[p],_,_=>⟨0,Jg _,λj x y l _ d=>by
  cases j with
  |zero=>exact absurd rfl l
  |succ j=>simp at d⟩
 |p::q::R,r,_=>by
  obtain⟨o,s⟩:=W5.mp r
  obtain⟨k,f⟩:=lo_ex s (Jg _)
  have m:(q::R)[k]? = some ((q::R)[k]'f.lt):=Zi f.lt;have n:(q::R)[k]'f.lt∈q::R:=Kk f.lt;rcases ymg p ((q::R)[k]'f.lt) with h|h|h
  ·refine⟨0,Jg _,λj x y l g d=>?_⟩
   cases j with
   |zero=>exact absurd rfl l
   |succ j=>
    rw[Qs] at g;rw[We] at d;cases g;by_cases e:j=k
    ·subst e;rw[m] at d;cases d;exact h
    ·exact ltP_trans h (f.low j _ _ e m d)
  ·rw[h] at o;exact absurd n o
  ·refine⟨k+1,Nat.succ_lt_succ f.lt,λj x y l g d=>?_⟩
   rw[We,m] at g;cases g;cases j with
   |zero=>rw[Qs] at d;cases d;exact h
   |succ j=>
    rw[We] at d;exact f.low j _ _ vB m d
end Lb
namespace Fi
open Mg
def nup{u:V}(h:up u)(k:up (ng u)):False:=by
 rcases h with h|⟨h,d⟩<;>rcases k with k|⟨k,e⟩<;>simp only[ng] at * <;> grind
def o1{j i k:V}(f:bf j i)(g:bf i k)(h:xr j i<=0):xr j k<=0:=by
 rcases f with⟨a,b⟩|⟨_,_,c⟩|⟨_,_,c⟩
 ·rcases g with⟨c,d⟩|⟨c,d,e⟩|⟨c,d,e⟩
  ·exact(nup c b).elim
  ·exact(nup c b).elim
  ·have x:=ybz a b d (by rw[zhn];grind) (by rw[zvh];exact Zy e);rw[zhn] at x;grind
 ·grind
 ·grind
def o2{j i k:V}(f:bf i k)(g:bf k j)(h:xr j i<=0):xr j k<=0:=by
 rcases g with⟨a,b⟩|⟨_,_,c⟩|⟨_,_,c⟩
 ·rcases f with⟨c,d⟩|⟨c,d,e⟩|⟨c,d,e⟩
  ·exact(nup a d).elim
  ·have x:=ybz b c d (by rw[zho];grind) (Zy e);rw[zho] at x;grind
  ·exact(nup a d).elim
 ·have:=zac j k;grind
 ·have:=zac j k;grind
def o3{j i k:V}(f:bf j i)(g:bf k j)(h:xr j i<=0):xr j k<=0:=by
 rcases f with⟨a,b⟩|⟨_,_,c⟩|⟨_,_,c⟩
 ·rcases g with⟨c,d⟩|⟨c,d,e⟩|⟨c,d,e⟩
  ·exact(nup a d).elim
  ·have:=zac j k;grind
  ·exact(nup a d).elim
 ·grind
 ·grind
def hill{f s:Nat->Rat}{n:Nat}{e:Rat}(u:f 1=e)(v:f n=e)(up:∀i,1<=i->i<n->0<=s i->f i<=f (i+1))(w:∀i,1<=i->i<n->s i<=0->f (i+1)<=f i)
 (A:∀i k,1<=i->i<k->k<n->s i<=0->s k<=0)(i:Nat)(B:1<=i)(C:i<=n):e<=f i:=by
 have d:∀m,∀i,1<=i->i+m=n->(∀k,i<=k->k<n->s k<=0)->e<=f i:=by
  intro m;induction m with
  |zero=>intro i _ D _;rw[show i=n by omega,v];exact Wm
  |succ m p=>
   intro i g D o;have a:=p (i+1) vB vB (λk t=>o k vB);have b:=w i g vB (o i (Zl _) vB);exact Jf a b
 have q:∀m,m+1<=n->(∀k,1<=k->k<m+1->0<=s k)->e<=f (m+1):=by
  intro m;induction m with
  |zero=>intro _ _;rw[u];exact Wm
  |succ m p=>
   intro G o;have a:=p vB (λk g t=>o k g vB);have b:=up (m+1) vB vB (o (m+1) vB vB);exact Jf a b
 by_cases h:∃k,1<=k/\k<i/\s k<=0
 ·obtain⟨k,E,H,F⟩:=h
  exact d (n-i) i B vB (λl I r=>A k l E vB r F)
 ·have:=q (i-1) vB (λk g t=>by
   by_cases z:0<=s k
   ·exact z
   ·exact(h ⟨k,g,by omega,by grind⟩).elim)
  rwa [show i-1+1=i by omega] at this
def yip(u v:V)(m:Rat)(p:V):xr u (pl p (m*v.1,m*v.2))=xr u p+m*xr u v:=by unfold xr pl;grind
def keeps{D P:Nat->V}{E:Nat->Rat}{n:Nat}(hD:∀i k,i<k->k<n->bf (D i) (D k))(p:∀i,i<n->xr (D i) (P i)=E i)(h:∀i,i<n->∃m,0<=m/\P ((i+1)%n)=pl (P i) (m*(D i).1,m*(D i).2))
 (i j:Nat)(q:i<n)(g:j<n):E j<=xr (D j) (P i):=by
 have self:∀u:V,xr u u=0:=λu=>by unfold xr;grind
 have key:=hill (f:=λi=>xr (D j) (P ((j+i)%n))) (s:=λi=>xr (D j) (D ((j+i)%n))) (n:=n) (e:=E j) ?_ ?_ ?_ ?_ ?_
 ·-- t place C i behind j
  by_cases z:j<i
  ·have:=key (i-j) vB vB
   rwa [show j+(i-j)=i by omega,Zj q] at this
  ·have:=key (n-j+i) vB vB
   rwa [show j+(n-j+i)=i+n by omega,Yt,Zj q] at this
 ·obtain⟨m,_,e⟩:=h j g
  show xr (D j) (P ((j+1)%n))=E j;rw[e,yip,p j g,self];grind
 ·show xr (D j) (P ((j+n)%n))=E j;rw[Yt,Zj g,p j g]
 ·intro i r l d;obtain⟨m,o,e⟩:=h ((j+i)%n) (Wp _ vB)
  show xr (D j) (P ((j+i)%n))<=xr (D j) (P ((j+(i+1))%n));rw[show(j+(i+1))%n=((j+i)%n+1)%n by rw[Wt];rfl,e,yip];have:=Zn o d
  grind
 ·intro i r l d;obtain⟨m,o,e⟩:=h ((j+i)%n) (Wp _ vB)
  show xr (D j) (P ((j+(i+1))%n))<=xr (D j) (P ((j+i)%n));rw[show(j+(i+1))%n=((j+i)%n+1)%n by rw[Wt];rfl,e,yip];have:=Zn o (show 0 <= - xr (D j) (D ((j+i)%n)) by grind)
  grind
 ·intro i k r v w d;show xr (D j) (D ((j+k)%n))<=0;have d:xr (D j) (D ((j+i)%n))<=0:=d;by_cases a:j+k<n
  ·rw[Zj a];rw[Zj vB] at d;exact o1 (hD _ _ vB vB) (hD (j+i) (j+k) vB a) d
  ·have A:(j+k)%n=j+k-n:=by rw[Ji vB,Zj vB]
   rw[A];by_cases b:j+i<n
   ·rw[Zj b] at d;exact o3 (hD _ _ vB b) (hD (j+k-n) j vB g) d
   ·have B:(j+i)%n=j+i-n:=by rw[Ji vB,Zj vB]
    rw[B] at d;exact o2 (hD (j+i-n) (j+k-n) vB vB) (hD (j+k-n) j vB g) d
def gg(a b c:V)(d e f:Rat):Rat:=xr b c*d+xr c a*e+xr a b*f
def len{a b c p q:V}{f d h:Rat}(n:0<xr a b)(o:0<xr b c)(t:xr a p=f)(l:xr b p=d)(u:xr b q=d)(v:xr c q=h)(C:gg a b c f d h<=0):
  ∃m,0<=m/\q=pl p (m*b.1,m*b.2):=by
 have r:0<xr a b*xr b c:=Zq n o;have w:xr a b*xr b c≠0:=by grind
 refine⟨- gg a b c f d h*(xr a b*xr b c)⁻¹,Zn (by grind) (Zy (Jt.mpr r)),?_⟩
 have s:=Qd _ w;generalize D:(xr a b*xr b c)⁻¹=I at s |-;have z:(xr a b*xr b c)*(q.1-p.1) = - gg a b c f d h*b.1:=by
  unfold gg;rw[<-t,<-l,<-v];have e:xr b q=xr b p:=u.trans l.symm;unfold xr at *;grind
 have B:(xr a b*xr b c)*(q.2-p.2) = - gg a b c f d h*b.2:=by
  unfold gg;rw[<-t,<-l,<-v];have e:xr b q=xr b p:=u.trans l.symm;unfold xr at *;grind
 generalize gg a b c f d h=g at *;generalize xr a b*xr b c=A at *;apply Yh
 ·show q.1=p.1 + -g*I*b.1;have:I*(A*(q.1-p.1))=I*(-g*b.1):=by rw[z]
  grind
 ·show q.2=p.2 + -g*I*b.2;have:I*(A*(q.2-p.2))=I*(-g*b.2):=by rw[B]
  grind
end Fi
namespace Fi
open Mg
def nx(n i:Nat):Nat:=if i+1=n then 0 else i+1
def pv(n i:Nat):Nat:=if i=0 then n-1 else i-1
def er(k i:Nat):Nat:=if i<k then i else i+1
def zdz{n i:Nat}(h:i<n):nx n i<n:=by unfold nx;split<;>omega
def zda{n i:Nat}(h:i<n):pv n i<n:=by unfold pv;split<;>omega
def zen{n k i:Nat}(d:k<n)(h:i<n-1):er k i<n:=by unfold er;split<;>omega
def er_ne{k i:Nat}:er k i≠k:=by unfold er;split<;>omega
def zzp{k i j:Nat}(h:i<j):er k i<er k j:=by unfold er;split<;>split<;>omega
def ynl{n k i:Nat}(d:3<=n)(e:k<n)(h:i<n-1):er k (nx (n-1) i)=if nx n (er k i)=k then nx n k else nx n (er k i):=by
 unfold nx er;repeat' split
 all_goals omega
def er_pv{n k i:Nat}(d:3<=n)(e:k<n)(h:i<n-1):er k (pv (n-1) i)=if pv n (er k i)=k then pv n k else pv n (er k i):=by
 unfold pv er;repeat' split
 all_goals omega
def zxy{n i:Nat}(h:i<n):nx n (pv n i)=i:=by
 unfold nx pv;repeat' split
 all_goals omega
def zuk{n i:Nat}(h:i<n):pv n (nx n i)=i:=by
 unfold nx pv;repeat' split
 all_goals omega
def zrw{n i:Nat}(d:3<=n)(h:i<n):pv n i≠nx n i:=by
 unfold nx pv;repeat' split
 all_goals omega
def zsd{n i:Nat}(h:i<n):nx n i=(i+1)%n:=by
 unfold nx;split
 ·next e=>rw[e,Jh]
 ·rw[Zj vB]
def ee(c l:Nat->Rat)(t:Rat)(i:Nat):Rat:=c i-t*l i
def gi(D:Nat->V)(c l:Nat->Rat)(n:Nat)(t:Rat)(i:Nat):Rat:=gg (D (pv n i)) (D i) (D (nx n i)) (ee c l t (pv n i)) (ee c l t i) (ee c l t (nx n i))
structure Ok(D:Nat->V)(c l:Nat->Rat)(n:Nat)(t:Rat):Prop where
 three:3<=n
 srt:∀i k,i<k->k<n->bf (D i) (D k)
 bend:∀i,i<n->0<xr (D i) (D (nx n i))
 lens:∀i,i<n->gi D c l n t i<=0
def ymq{a b c d:V}{f e g ed:Rat}(h:gg b c d e g ed=0):xr b c*gg a b d f e ed=xr b d*gg a b c f e g:=by
 unfold gg xr at *;grind
def yey{b c d f:V}{e g ed h:Rat}(l:gg b c d e g ed=0):xr c d*gg b d f e ed h=xr b d*gg c d f g ed h:=by
 unfold gg xr at *;grind
def znx{A B g d:Rat}(f:0<A)(l:0<B)(e:A*d=B*g)(h:g<=0):d<=0:=by
 have a:=Zn (Zy l) (show 0 <= -g by grind);have:0 <= -d:=zad f (by grind)
 grind
def Ok.drop{D:Nat->V}{c l:Nat->Rat}{n k:Nat}{t o:Rat}(O:Ok D c l n t)(d:k<n)(r:∀i,i<n->gi D c l n o i<=0)(q:gi D c l n o k=0)(A:xr (D (nx n k)) (D (pv n k))<0):
  Ok (λi=>D (er k i)) (λi=>c (er k i)) (λi=>l (er k i)) (n-1) o/\4<=n:=by
 have h:0<xr (D (pv n k)) (D (nx n k)):=by rw[zac];grind
 have p:4<=n:=by
  rcases Yf 3 n with z|z
  ·exact z
  ·have w:n=3:=by have:=O.three;omega
   have:=O.bend (nx n k) (zdz d)
   have e:nx n (nx n k)=pv n k:=by
    subst w;unfold nx pv;repeat' split
    all_goals omega
   rw[e] at this;grind
 refine⟨⟨by omega,λi j s f=>O.srt _ _ (zzp s) (zen d f),λi m=>?_,λi m=>?_⟩,p⟩
 ·show 0<xr (D (er k i)) (D (er k (nx (n-1) i)));rw[ynl O.three d m];split
  ·next z=>
   have:er k i=pv n k:=by
    have:=zuk (zen d m)
    rw[z] at this;exact this.symm
   rw[this];exact h
  ·exact O.bend _ (zen d m)
 ·show gg (D (er k (pv (n-1) i))) (D (er k i)) (D (er k (nx (n-1) i))) (ee c l o (er k (pv (n-1) i))) (ee c l o (er k i)) (ee c l o (er k (nx (n-1) i)))<=0;rw[ynl O.three d m,er_pv O.three d m];have f:=zen d m;have B:=er_ne (k:=k) (i:=i);generalize er k i=j at *;split
  ·next z=>
   have u:j=nx n k:=by
    have:=zxy f
    rw[z] at this;exact this.symm
   subst u;rw[if_neg (λy=>by
    have:=zrw O.three f
    rw[z,y] at this;exact this rfl)]
   have g:=r (nx n k) f;unfold gi at g q;rw[z] at g;exact znx (O.bend k d) h (yey q) g
  ·next z=>
   split
   ·next y=>
    have u:j=pv n k:=by
     have:=zuk f
     rw[y] at this;exact this.symm
    subst u;have g:=r (pv n k) f;unfold gi at g q;rw[y] at g;have v:=O.bend (pv n k) f;rw[y] at v;exact znx v h (ymq q) g
   ·exact r j f
def still{D:Nat->V}{c l:Nat->Rat}{n k:Nat}{s:Rat}{x:V}(p:xr (D (nx n k)) (D (pv n k))<0)(d:0<xr (D (pv n k)) (D k))(f:0<xr (D k) (D (nx n k)))(g:0<=gi D c l n s k)
 (q:ee c l s (pv n k)<=xr (D (pv n k)) x)(r:ee c l s (nx n k)<=xr (D (nx n k)) x):ee c l s k<=xr (D k) x:=by
 unfold gi gg at g;generalize D (pv n k)=a at *;generalize D (nx n k)=b at *;generalize D k=m at *;generalize ee c l s (pv n k)=h at *;generalize ee c l s (nx n k)=o at *;generalize ee c l s k=em at *;have t:=Zn (Zy f) (show 0<=xr a x-h by grind);have u:=Zn (Zy d) (show 0<=xr b x-o by grind);have e:xr m b*xr a x+xr a m*xr b x = - xr b a*xr m x:=by unfold xr;grind
 have:0<=xr m x-em:=zad (b:=- xr b a) (by grind) (by grind)
 grind
end Fi
namespace Fi
open Mg
def mt(a b:V)(d e:Rat):V:=((d*b.1-e*a.1)*(xr a b)⁻¹,(d*b.2-e*a.2)*(xr a b)⁻¹)
def mt_l{a b:V}{d e:Rat}(h:0<xr a b):xr a (mt a b d e)=d:=by
 have i:=Qd _ (show xr a b≠0 by grind);unfold mt;generalize f:(xr a b)⁻¹=I at *;have:xr a ((d*b.1-e*a.1)*I,(d*b.2-e*a.2)*I)=d*(xr a b*I):=by unfold xr;grind
 rw[this,i];grind
def mt_r{a b:V}{e d:Rat}(h:0<xr a b):xr b (mt a b e d)=d:=by
 have i:=Qd _ (show xr a b≠0 by grind);unfold mt;generalize f:(xr a b)⁻¹=I at *;have:xr b ((e*b.1-d*a.1)*I,(e*b.2-d*a.2)*I)=d*(xr a b*I):=by unfold xr;grind
 rw[this,i];grind
section
variable{D:Nat->V}{c l:Nat->Rat}{n:Nat}{t:Rat}
def mi(D:Nat->V)(c l:Nat->Rat)(n:Nat)(t:Rat)(i:Nat):V:=mt (D (pv n i)) (D i) (ee c l t (pv n i)) (ee c l t i)
def Ok.bendp(O:Ok D c l n t){i:Nat}(d:i<n):0<xr (D (pv n i)) (D i):=by
 have:=O.bend (pv n i) (zda d)
 rwa [zxy d] at this
theorem Ok.keeps(O:Ok D c l n t)(i j:Nat)(d:i<n)(e:j<n):ee c l t j<=xr (D j) (mi D c l n t i):=by
 refine Fi.keeps (D:=D) (P:=mi D c l n t) (E:=ee c l t) O.srt (λi d=>mt_r (O.bendp d)) (λi d=>?_) i j d e;rw[<-zsd d];refine Fi.len (O.bendp d) (O.bend i d) (mt_l (O.bendp d)) (mt_r (O.bendp d)) ?_ ?_ (O.lens i d)
 ·unfold mi;rw[zuk d];exact mt_l (O.bend i d)
 ·unfold mi;rw[zuk d];exact mt_r (O.bend i d)
def tp(D:Nat->V)(c:Nat->Rat)(n i:Nat):Rat:=- gg (D (pv n i)) (D i) (D (nx n i)) (c (pv n i)) (c i) (c (nx n i))
def zzh{i:Nat}:gi D c l n t i=t*tp D l n i-tp D c n i:=by unfold gi tp gg ee;grind
def Span(D:Nat->V)(n:Nat):Prop:=∀u:V,(∀i,i<n->0<=xr (D i) u)->u=(0,0)
def Span.drop{k:Nat}(S:Span D n)(O:Ok D c l n t)(f:k<n)(e:xr (D (nx n k)) (D (pv n k))<0):Span (λi=>D (er k i)) (n-1):=λu h=>by
 have all:∀j,j<n->j≠k->0<=xr (D j) u:=λj g m=>by
  rcases Yf j k with z|z
  ·have:=h j vB
   simp only[er,if_pos z] at this;exact this
  ·have:=h (j-1) vB
   simp only[er,if_neg (show ¬j-1<k by omega),show j-1+1=j by omega] at this;exact this
 refine S u λi d=>?_;by_cases z:i=k
 ·subst z;have a:=all (pv n i) (zda d) (by unfold pv;have:=O.three;split<;>omega);have b:=all (nx n i) (zdz d) (by unfold nx;have:=O.three;split<;>omega);have:=still (c:=λ_=>0) (l:=λ_=>0) (s:=0) (x:=u) e (O.bendp d) (O.bend i d) (by unfold gi gg ee;grind) (by unfold ee;grind) (by unfold ee;grind)
  unfold ee at this;grind
 ·exact all i d z
def Ok.some(O:Ok D c l n t)(S:Span D n){v e:V}(f:v≠e)(g:∀i,i<n->l i<=xr (D i) v)(h:∀i,i<n->l i<=xr (D i) e):∃i,i<n/\0<tp D l n i:=by
 apply Yu
 intro m;have o:Ok D (λi=>- l i) (λ_=>0) n 0:=⟨O.three,O.srt,O.bend,λi d=>by
  have:¬0<tp D l n i:=λz=>m ⟨i,d,z⟩
  unfold tp at this;unfold gi gg ee at *;grind⟩
 have q:0<n:=by have:=O.three;omega
 have k:=λj r=>o.keeps 0 j q r
 generalize mi D (λi=>- l i) (λ_=>0) n 0 0=p at k;have key:∀w:V,(∀i,i<n->l i<=xr (D i) w)->w=ng p:=λw s=>by
  have:=S (pl w p) (λi d=>by
   have a:=s i d;have b:=k i d;unfold ee at b;rw[zvg];grind)
  have u:w.1+p.1=0:=congrArg Prod.fst this;have A:w.2+p.2=0:=congrArg Prod.snd this;apply Yh
  ·show w.1 = - p.1;grind
  ·show w.2 = - p.2;grind
 exact f ((key v g).trans (key e h).symm)
def Ok.until(O:Ok D c l n t){k:Nat}{d:Rat}(h:k<n)(m:0<tp D l n k)(q:d*tp D l n k=tp D c n k)(o:∀i,i<n->0<tp D l n i->d*tp D l n i<=tp D c n i):
  t<=d/\(∀i,i<n->gi D c l n d i<=0)/\gi D c l n d k=0:=by
 have g:=O.lens k h;rw[zzh] at g;have p:t<=d:=by
  by_cases z:t<=d
  ·exact z
  ·have:=Zq (show 0<t-d by grind) m
   grind
 refine⟨p,λi f=>?_,by rw[zzh];grind⟩
 have e:=O.lens i f;rw[zzh] at e |-;by_cases z:0<tp D l n i
 ·have:=o i f z;grind
 ·have:=Zn (show 0<=d-t by grind) (show 0 <= - tp D l n i by grind)
  grind
def Ok.back(O:Ok D c l n t){k:Nat}{e s:Rat}{x:V}(m:k<n)(f:0<tp D l n k)(o:e*tp D l n k=tp D c n k)(p:e<=s)(g:xr (D (nx n k)) (D (pv n k))<0)
 (h:∀i,i<n-1->ee c l s (er k i)<=xr (D (er k i)) x):∀i,i<n->ee c l s i<=xr (D i) x:=λi d=>by
 have all:∀j,j<n->j≠k->ee c l s j<=xr (D j) x:=λj q r=>by
  rcases Yf j k with z|z
  ·have:=h j vB
   simp only[er,if_pos z] at this;exact this
  ·have:=h (j-1) vB
   simp only[er,if_neg (show ¬j-1<k by omega),show j-1+1=j by omega] at this;exact this
 by_cases z:i=k
 ·subst z;have:=Zn (show 0<=s-e by grind) (Zy f)
  exact still g (O.bendp d) (O.bend i d) (by rw[zzh];grind) (all _ (zda d) (by unfold pv;have:=O.three;split<;>omega)) (all _ (zdz d) (by unfold nx;have:=O.three;split<;>omega))
 ·exact all i d z
end
end Fi
namespace Fi
open Mg
def sm(m:Rat)(u:V):V:=(m*u.1,m*u.2)
def zto{m:Rat}{u:V}(h:0<m)(k:up u):up (sm m u):=by
 rcases k with k|⟨k,d⟩
 ·exact .inl (Zq h k)
 ·exact .inr ⟨by show m*u.1=0;rw[k];grind,Zq h d⟩
def ylw{m:Rat}{u:V}:ng (sm m u)=sm m (ng u):=by unfold ng sm;exact Yh (by dsimp only;grind) (by dsimp only;grind)
def zve{m k:Rat}{u v:V}:xr (sm m u) (sm k v)=m*k*xr u v:=by unfold xr sm;grind
def zep{m:Rat}{u v:V}:xr (sm m u) v=m*xr u v:=by unfold xr sm;grind
def bf_sm{m k:Rat}{u v:V}(d:0<m)(e:0<k)(h:bf u v):bf (sm m u) (sm k v):=by
 rcases h with⟨a,b⟩|⟨a,b,c⟩|⟨a,b,c⟩
 ·exact .inl ⟨zto d a,by rw[ylw];exact zto e b⟩
 ·exact .inr (.inl ⟨zto d a,zto e b,by rw[zve];exact Zq (Zq d e) c⟩)
 ·exact .inr (.inr ⟨by rw[ylw];exact zto d a,by rw[ylw];exact zto e b,by rw[zve];exact Zq (Zq d e) c⟩)
def Off(D:Nat->V)(c:Nat->Rat)(n:Nat):Prop:=∀i,i<n->∃x,(∀j,j<n->c j<=xr (D j) x)/\c i<xr (D i) x
section
variable{D P:Nat->V}{c l:Nat->Rat}{n:Nat}
structure Sds(D P:Nat->V)(c:Nat->Rat)(n:Nat):Prop where
 poly:Poly P n
 way:∀i,i<n->∃m,0<m/\D i=sm m (ed P i)
 on:∀i,i<n->c i=xr (D i) (P i)
def ed_n(h:Poly P n):ed P n=ed P 0:=by
 unfold ed;have a:=h.per 0;have b:=h.per 1;rw[show 0+n=n by omega] at a;rw[show 1+n=n+1 by omega] at b;rw[a,b]
def P_nx(h:Poly P n){i:Nat}(d:i<n):P (nx n i)=P (i+1)/\ed P (nx n i)=ed P (i+1):=by
 unfold nx;split
 ·next e=>
  have a:=h.per 0;rw[show 0+n=n by omega] at a;rw[e,a,ed_n h];exact⟨rfl,rfl⟩
 ·exact⟨rfl,rfl⟩
def Sds.bend(S:Sds D P c n){i:Nat}(d:i<n):0<xr (D i) (D (nx n i)):=by
 obtain⟨m,g,e⟩:=S.way i d
 obtain⟨k,h,f⟩:=S.way (nx n i) (zdz d)
 rw[e,f,(P_nx S.poly d).2,zve];exact Zq (Zq g h) (S.poly.turn i)
def Sds.on2(S:Sds D P c n){i:Nat}(d:i<n):c i=xr (D i) (P (nx n i)):=by
 obtain⟨m,f,e⟩:=S.way i d
 rw[S.on i d,(P_nx S.poly d).1,e];unfold sm ed mn xr;grind
def gg_len{a b c p:V}{m:Rat}:gg a b c (xr a p) (xr b p) (xr c (pl p (m*b.1,m*b.2))) = - m*xr a b*xr b c:=by unfold gg xr pl;grind
def Sds.ok(S:Sds D P c n):Ok D c l n 0:=by
 have g:=S.poly.three;refine⟨g,λi k h r=>?_,λi d=>S.bend d,λi d=>?_⟩
 ·obtain⟨m,o,e⟩:=S.way i vB
  obtain⟨z,q,f⟩:=S.way k r
  rw[e,f];exact bf_sm o q (S.poly.srt h r)
 ·obtain⟨m,o,e⟩:=S.way i d
  have s:=S.bend (zda d);rw[zxy d] at s;have t:=S.bend d;have u:c (pv n i)=xr (D (pv n i)) (P i):=by
   have:=S.on2 (zda d)
   rwa [zxy d] at this
  have mi:=Jt.mpr o;have v:P (nx n i)=pl (P i) (m⁻¹*(D i).1,m⁻¹*(D i).2):=by
   have A:=Qd m (by grind);rw[(P_nx S.poly d).1,e];generalize m⁻¹=I at *;unfold pl sm ed mn;exact Yh (by dsimp only;grind) (by dsimp only;grind)
  have w:gi D c l n 0 i = - m⁻¹*xr (D (pv n i)) (D i)*xr (D i) (D (nx n i)):=by
   unfold gi ee;rw[u,S.on i d,S.on (nx n i) (zdz d),v,<-gg_len (p:=P i)];unfold gg;grind
  rw[w];have:=Zn (Zn (Zy mi) (Zy s)) (Zy t)
  grind
def Sds.span(S:Sds D P c n):Span D n:=λu h=>by
 have o:=S.poly.three;have q:∀i,i<n->0<=xr (ed P i) u:=λi d=>by
  obtain⟨m,r,e⟩:=S.way i d
  have:=h i d
  rw[e,zep,U3] at this;exact zad r this
 have f:∀i,xr (ed P i) u=xr (P (i+1)) u-xr (P i) u:=λi=>by unfold ed mn xr;grind
 have g:∀k i,i+k<=n->xr (P i) u<=xr (P (i+k)) u:=by
  intro k;induction k with
  |zero=>intro i _;exact Wm
  |succ k t=>
   intro i d;have a:=t i vB;have b:=q (i+k) vB;rw[f] at b;rw[show i+(k+1)=i+k+1 by omega];grind
 have l:∀i,i<n->xr (ed P i) u=0:=λi d=>by
  have a:=g i 0 vB;have b:=g (n-(i+1)) (i+1) vB;have p:=S.poly.per 0;rw[show i+1+(n-(i+1))=0+n by omega,p] at b;rw[show 0+i=i by omega] at a;have s:=q i d;rw[f] at s |-;grind
 have v:=S.poly.turn 0;have a:=l 0 vB;have b:=l 1 vB;have w:0<xr (ed P 0) (ed P 1):=v;generalize ed P 0=x at *;generalize ed P 1=y at *;have A:xr x y*u.1=xr x u*y.1-xr y u*x.1:=by unfold xr;grind
 have B:xr x y*u.2=xr x u*y.2-xr y u*x.2:=by unfold xr;grind
 rw[a,b] at A B;have z:xr x y≠0:=by grind
 apply Yh
 ·exact(Y7.mp (show xr x y*u.1=0 by grind)).resolve_left z
 ·exact(Y7.mp (show xr x y*u.2=0 by grind)).resolve_left z
def Sds.corner(S:Sds D P c n)(k:Nat){i:Nat}(d:i<n):c i<=xr (D i) (P k):=by
 obtain⟨m,f,e⟩:=S.way i d
 have:=Zn (Zy f) (S.poly.conv i k)
 rw[S.on i d,e,zep,zep];have g:xr (mn (P (i+1)) (P i)) (mn (P k) (P i))=xr (ed P i) (P k)-xr (ed P i) (P i):=by unfold ed mn xr;grind
 rw[g] at this;grind
def Sds.off(S:Sds D P c n):Off D c n:=λi d=>by
 refine⟨P (i+2),λj f=>S.corner _ f,?_⟩
 obtain⟨m,g,e⟩:=S.way i d
 have:=Zq g (S.poly.turn i)
 rw[S.on i d,e,zep,zep];have h:xr (mn (P (i+1)) (P i)) (mn (P (i+2)) (P (i+1)))=xr (ed P i) (P (i+2))-xr (ed P i) (P i):=by unfold ed mn xr;grind
 rw[h] at this;grind
def Off.drop{k:Nat}(h:Off D c n)(d:k<n):Off (λi=>D (er k i)) (λi=>c (er k i)) (n-1):=λi e=>by
 obtain⟨x,f,g⟩:=h (er k i) (zen d e)
 exact⟨x,λj l=>f _ (zen d l),g⟩
def Off.pos{t:Rat}(h:Off D c n)(O:Ok D c l n t){k:Nat}(f:k<n)(m:0<=xr (D (nx n k)) (D (pv n k))):0<tp D c n k:=by
 obtain⟨x,g,o⟩:=h (pv n k) (zda f)
 have a:=Zq (O.bend k f) (show 0<xr (D (pv n k)) x-c (pv n k) by grind);have b:=Zn m (show 0<=xr (D k) x-c k by have:=g k f;grind);have d:=Zn (Zy (O.bendp f)) (show 0<=xr (D (nx n k)) x-c (nx n k) by have:=g _ (zdz f);grind);unfold tp gg;have e:xr (D k) (D (nx n k))*xr (D (pv n k)) x+xr (D (nx n k)) (D (pv n k))*xr (D k) x+xr (D (pv n k)) (D k)*xr (D (nx n k)) x=0:=by unfold xr;grind
 grind
end
end Fi
open Sf
def cutTo{l:List D}{a:Nat}(h:a<=l.length):cutD l none (some (a:Int))=l.take a:=by
 unfold cutD;rw[HT.sIx_none,HT.sIx_nat,List.drop_zero,Nat.sub_zero,Ub h]
def zlw{l:List D}{a:Nat}(h:a<=l.length):cutD l (some (a:Int)) none=l.drop a:=by
 unfold cutD;rw[HT.sIx_none,HT.sIx_nat,Ub h,V9 (by rw[Ys];exact Zl _)]
section
variable{Γ:Nat->∅}
abbrev zks:List (Nat×(∅)):=[(9,zde)]
def zdh:∅:=run (tab zks) zml 2
def ok_added(e:Γ 9=zde):∀d w,d.length=2->zdh d=some w->run Γ zml 2 d=some w:=λd w _ h=>zcb zks (by
 intro p f;rcases Zp.mp f with rfl;exact e) vA d w h
def zot{m n:Nat}{q p:Rat×Rat}(e:Sz m q.1/\Sz m q.2)(f:Sz n p.1/\Sz n p.2)(g:m<=4400:=by decide)(h:n<=4400:=by decide):zdh [stD q,stD p]=some (.val (stD (pshR p q))):=by
 unfold zdh;generalize d:tab zks=Γ;have l:Γ 9=zde:=by rw[<-d];rfl
 have o:zde [fr q.1,fr p.1]=some (.val (fr (q.1+p.1))):=zal (zaa e.1 f.1 g h);have r:zde [fr q.2,fr p.2]=some (.val (fr (q.2+p.2))):=zal (zaa e.2 f.2 g h);show _=some (W.val (.tup [fr (q.1+p.1),fr (q.2+p.2)]));generalize fr (q.1+p.1)=X at *;generalize fr (q.2+p.2)=Y at *;clear e f d g h;unfold zml stD;walk_at "evh"
abbrev zhy:List (Nat×(∅)):=[(67,zdh)]
def ziq:∅:=run (tab zhy) zfm 2
def ok_pushed(e:Γ 67=zdh):∀d w,d.length=2->ziq d=some w->run Γ zfm 2 d=some w:=λd w _ h=>zcb zhy (by
 intro p f;rcases Zp.mp f with rfl;exact e) vA d w h
def zul{m n:Nat}{l:List (Rat×Rat)}{p:Rat×Rat}(u:l.length<=1000)(e:SzL m l)(f:Sz n p.1/\Sz n p.2)(h:m<=4400:=by decide)(o:n<=4400:=by decide):ziq [.lst (l.map stD),stD p]=some (.new ((l.map (pshR p)).map stD)):=by
 unfold ziq;generalize d:tab zhy=Γ;have v:Γ 67=zdh:=by rw[<-d];rfl
 have r:ev Γ (.comp (.call 67 #v[.var 1,.var 2]) (.name 1) (.seqV 0) 2 [1] .non) [some (.lst (l.map stD)),some (stD p)]=some (.new (l.map λq=>stD (pshR p q))):=by
  refine zce (g:=stD) ?_ (by rw[Qk];omega) rfl λq t=>?_
  ·generalize stD p=P;clear e f d h o;walk_at "evh"
  ·have a:=zot (e q t) f h o;generalize stD (pshR p q)=O at *;generalize stD q=Q at *;generalize stD p=P at *;generalize l.map stD=w at *;clear e f d t h o;walk_at "evh"
 rw[Ye];show run Γ zfm 2 _=some (.new (l.map λq=>stD (pshR p q)));generalize (l.map λq=>stD (pshR p q))=O at *;generalize stD p=P at *;generalize l.map stD=w at *;unfold zfm;generalize s:E.comp _ _ _ _ _ _=z at *;clear e f d u s h o;walk_at "evh"
def rat_of(x:Rat):Rat.divInt x.num (x.den:Int)=x:=by
 rw[Rat.divInt_ofNat];exact V3 x
def add_r(x y:Rat):Rat.divInt (x.num*(y.den:Int)+y.num*(x.den:Int)) ((x.den:Int)*(y.den:Int))=x+y:=by
 have d:(x.den:Int)≠0:=by have:=den_pos x;omega
 have f:(y.den:Int)≠0:=by have:=den_pos y;omega
 have e:=Q7 x.num y.num d f;rw[rat_of,rat_of] at e;exact e.symm
def mul_r(x y:Rat):Rat.divInt (x.num*y.num) ((x.den:Int)*(y.den:Int))=x*y:=by
 have e:=Q6 x.num y.num (d₁:=(x.den:Int)) (d₂:=(y.den:Int));rw[rat_of,rat_of] at e;exact e.symm
end
open Sf
section
variable{Γ:Nat->∅}
end
open Sf
section
variable{Γ:Nat->∅}
structure Sy(a b:Nat)(x:Rat):Prop where
 t:x.num.natAbs<2^a
 b:x.den<2^b
def Sy.sz{a b n:Nat}{x:Rat}(h:Sy a b x)(d:a<=n)(e:b<=n):Sz n x:=⟨Zf h.t (Bx d),Zf h.b (Bx e)⟩
def Sy.mono{a b c d:Nat}{x:Rat}(h:Sy a b x)(e:a<=c)(f:b<=d):Sy c d x:=⟨Zf h.t (Bx e),Zf h.b (Bx f)⟩
def zei{x:Rat}{p q:Int}{m n:Nat}(d:q≠0)(e:x=Rat.divInt p q)(f:p.natAbs<2^m)(g:q.natAbs<2^n):Sy m n x:=by
 obtain⟨a,b⟩:=(zcv x).cross_le d ((zrt d).mp e)
 exact⟨Yk a f,by have:=b;omega⟩
def zia{t b:Int}{m n:Nat}(h:b≠0)(d:t.natAbs<2^m)(e:b.natAbs<2^n):Sy m n (Rat.divInt t b):=zei h rfl d e
def Sy.mul{a b c d:Nat}{x y:Rat}(e:Sy a b x)(f:Sy c d y):Sy (a+c) (b+d) (x*y):=by
 have p:(x.den:Int)≠0:=by have:=x.den_nz;omega
 have q:(y.den:Int)≠0:=by have:=y.den_nz;omega
 refine zei (Yc p q) (zpx x y) ?_ ?_
 ·rw[Yb];exact zay e.t f.t
 ·rw[Yb];exact zay e.b f.b
def Sy.add{a b c d k:Nat}{x y:Rat}(f:Sy a b x)(g:Sy c d y)(h:a+d<=k)(l:c+b<=k):Sy (k+1) (b+d) (x+y):=by
 have p:(x.den:Int)≠0:=by have:=x.den_nz;omega
 have q:(y.den:Int)≠0:=by have:=y.den_nz;omega
 have e:x+y=Rat.divInt (x.num*y.den+y.num*x.den) (x.den*y.den):=by
  conv=>lhs;rw[<-Yo x,<-Yo y]
  exact Q7 _ _ p q
 refine zei (Yc p q) e ?_ ?_
 ·have m:(x.num*y.den).natAbs<2^k:=by rw[Yb];exact Zf (zay f.t g.b) (Bx h)
  have n:(y.num*x.den).natAbs<2^k:=by rw[Yb];exact Zf (zay g.t f.b) (Bx l)
  exact Yk (U2 _ _) (by rw[Ua,Vp];exact V4 m n)
 ·rw[Yb];exact zay f.b g.b
def Sy.neg{a b:Nat}{x:Rat}(d:Sy a b x):Sy a b (-x):=⟨by show(-x.num).natAbs<_;rw[Jn];exact d.t,d.b⟩
end
open Sf
section
variable{Γ:Nat->∅}
def crI(s t:H3):Int:=s.1*t.2.1-s.2.1*t.1
def zbm:∅:=run (tab []) zmk 2
def ok_cross:∀d w,d.length=2->zbm d=some w->run Γ zmk 2 d=some w:=λd w _ h=>zcb [] (λp e=>by cases e) vA d w h
def zdk{s t:H3}(d:HB 3000 s)(e:HB 3000 t):zbm [hD s,hD t]=some (.val (.int (crI s t))):=by
 have f:Bz s.1 t.2.1=true:=Bu d.a e.b vA vA;have g:Bz s.2.1 t.1=true:=Bu d.b e.a vA vA;unfold zbm;generalize tab []=Γ;unfold crI hD zmk;clear d e;walk_at "evh"
def zjt:List H3->List H3->Int
 |_,[]=>1
 |[],_::_=>-1
 |s::_,t::_=>crI s t
abbrev zpd:List (Nat×(∅)):=[(81,zbm)]
def znr:∅:=run (tab zpd) zaq 2
def ok_next_bend(e:Γ 81=zbm):∀d w,d.length=2->znr d=some w->run Γ zaq 2 d=some w:=λd w _ h=>zcb zpd (by
 intro p f;rcases Zp.mp f with rfl;exact e) vA d w h
theorem yib:∀l:List H3,dOkL 49 (l.map hD)=true
 |[]=>rfl
 |p::l=>by
  rw[Zx];unfold dOkL;rw[yib l];rfl
theorem zgj:∀l:List H3,lfL (l.map hD)=true
 |[]=>rfl
 |p::l=>by rw[Zx];unfold lfL;rw[zgj l];rfl
def zjc(l:List H3):cmpD .eq (.lst (l.map hD)) (.lst [])=some (decide (l=[])):=by
 have d:=yib l;show(if (dOkL 49 (l.map hD) && dOkL 49 [])=true then some (eqL (l.map hD) []) else none)=_;rw[d,if_pos (show(true && dOkL 49 [])=true from rfl)];cases l with
 |nil=>rfl
 |cons x l=>rfl
def ygd{d:∅}(e:Γ 81=d){x y:D}{A B:List D}{c:Int}(f:L2.atI A 0=some x)(g:L2.atI B 0=some y)(a:cmpD .eq (.lst A) (.lst [])=some false)(b:cmpD .eq (.lst B) (.lst [])=some false)(l:lfL A=true)(m:lfL B=true)(h:d [x,y]=some (.val (.int c))):
  run Γ zaq 2 [.lst A,.lst B]=some (.val (.int c)):=by
 unfold zaq;walk_at "evh"
def yay{A B:List D}(b:cmpD .eq (.lst B) (.lst [])=some true)(d:lfL B=true):run Γ zaq 2 [.lst A,.lst B]=some (.val (.int 1)):=by
 unfold zaq;walk_at "evh"
def yax{A B:List D}(a:cmpD .eq (.lst A) (.lst [])=some true)(b:cmpD .eq (.lst B) (.lst [])=some false)(d:lfL A=true)(e:lfL B=true):run Γ zaq 2 [.lst A,.lst B]=some (.val (.int (-1))):=by
 unfold zaq;walk_at "evh"
def zkm{l:List D}{k:Nat}{x:D}(h:l[k]? = some x):L2.atI l (k:Int)=some x:=by
 have d:k<l.length:=by
  rcases Yf k l.length with q|q
  ·exact q
  ·rw[Yn q] at h;cases h
 rw[ybe (Yv k) vB,Z9,h]
def at_hd(x:H3)(l:List H3):L2.atI ((x::l).map hD) 0=some (hD x):=zkm (k:=0) rfl
def yge{A B:List H3}(f:∀s∈A,HB 3000 s)(g:∀s∈B,HB 3000 s):znr [.lst (A.map hD),.lst (B.map hD)]=some (.val (.int (zjt A B))):=by
 unfold znr;generalize d:tab zpd=Γ;have e:Γ 81=zbm:=by rw[<-d];rfl
 cases B with
 |nil=>
  have:=yay (Γ:=Γ) (A:=A.map hD) (zjc []) (zgj [])
  cases A<;>exact this
 |cons t B=>
  cases A with
  |nil=>exact yax (zjc []) (zjc (t::B)) (zgj []) (zgj (t::B))
  |cons s A=>exact ygd e (x:=hD s) (y:=hD t) (at_hd _ _) (at_hd _ _) (zjc (s::A)) (zjc (t::B)) (zgj (s::A)) (zgj (t::B)) (zdk (f s (.head _)) (g t (.head _)))
abbrev zja:E:=(.or (.cmp .lt (.var 5) (.bi .len #v[.var 0])) (.cmp .lt (.var 6) (.bi .len #v[.var 1])))
abbrev zfx:Ss:=#v[.app 4 (.call 67 #v[.ix (.var 0) (.bin .mod (.var 5) (.bi .len #v[.var 0])),.ix (.var 1) (.bin .mod (.var 6) (.bi .len #v[.var 1]))]),.asg 7 (.call 83 #v[.sl (.var 2) (.som (.var 5)) .non,.sl (.var 3) (.som (.var 6)) .non]),.iff (.cmp .ge (.var 7) (.int 0)) #v[.asg 5 (.bin .add (.var 5) (.int 1))] .nil,.iff (.cmp .le (.var 7) (.int 0)) #v[.asg 6 (.bin .add (.var 6) (.int 1))] .nil]
def zlx{l d o p C:List D}{i j n m:Int}{c:Option B}{r:Bool}(s:(l.length:Int)=n)(t:(d.length:Int)=m)(q:decide (i<n\/j<m)=r):
  evB Γ zja [~~~.lst l,~~~.lst d,some (.ow o),some (.ow p),some (.ow C),~~~.int i,~~~.int j,c]=some r:=by
 subst q;by_cases e:i<n
 ·rw[decide_eq_true (.inl e)];have g:(i<n)=True:=eq_true e;walk_at "evh"
 ·have g:(i<n)=False:=eq_false e;by_cases f:j<m
  ·have h:(j<m)=True:=eq_true f;rw[decide_eq_true (.inr f)];walk_at "evh"
  ·have h:(j<m)=False:=eq_false f;rw[decide_eq_false (λz=>z.elim e f)];walk_at "evh"
def ycj{s t:∅}(v:Γ 67=s)(w:Γ 83=t){p d q r C A u:List D}{i j n m b:Int}{x y z:D}{c:Option B}(E:(p.length:Int)=n)(F:(d.length:Int)=m)(G:0<n)(H:0<m)(I:(n=0)=False)(J:(m=0)=False)(K:zbu n=true)(L:zbu m=true)
 (M:L2.atI p (i%n)=some x)(N:L2.atI d (j%m)=some y)(f:s [x,y]=some (.val z))(O:lf z=true)(P:(C.length<PySem.sizeLine)=True)(Q:cutD q (some i) none=A)(R:cutD r (some j) none=u)(g:t [.lst A,.lst u]=some (.val (.int b))):
  exs Γ zfx [~~~.lst p,~~~.lst d,some (.ow q),some (.ow r),some (.ow C),~~~.int i,~~~.int j,c]
   = some (.nx [~~~.lst p,~~~.lst d,some (.ow q),some (.ow r),some (.ow (C++[z])),~~~(.int (if 0<=b then i+1 else i)),~~~(.int (if b<=0 then j+1 else j)),~~~.int b]):=by
 unfold zfx;by_cases e:0<=b<;>by_cases h:b<=0
 ·rw[if_pos e,if_pos h];have l:(0<=b)=True:=eq_true e;have o:(b<=0)=True:=eq_true h;walk_at "evh"
 ·rw[if_pos e,if_neg h];have l:(0<=b)=True:=eq_true e;have o:(b<=0)=False:=eq_false h;walk_at "evh"
 ·rw[if_neg e,if_pos h];have l:(0<=b)=False:=eq_false e;have o:(b<=0)=True:=eq_true h;walk_at "evh"
 ·omega
end
open Sf Mg
section
variable{Γ:Nat->∅}
def ynt{s e d f:Rat×Rat}(h:s≠e)(l:d≠f):∃k:Rat,0<k/\(crI (zcl s e) (zcl d f):Rat)=k*xr (mn e s) (mn f d):=by
 obtain⟨_,k,m,n,o,_⟩:=zlm (c:=(s.2-e.2)*s.1+(e.1-s.1)*s.2) (zev h)
 obtain⟨_,p,g,q,r,_⟩:=zlm (c:=(d.2-f.2)*d.1+(f.1-d.1)*d.2) (zev l)
 refine⟨k*p,Zq m g,?_⟩
 unfold crI zcl xr mn;rw[W8,Z4,Z4,n,o,q,r];grind
def yjo{c:Int}{k x:Rat}(d:0<k)(e:(c:Rat)=k*x):(0<=c↔0<=x)/\(c<=0↔x<=0):=by
 have z:((0:Int):Rat)=0:=rfl;constructor
 ·rw[<-Kt,z,e];constructor
  ·intro h;exact zad d (by rw[U3];exact h)
  ·intro h;exact Zn (Zy d) h
 ·rw[<-Kt,z,e];constructor
  ·intro h;have:=zad (a:=-x) d (by grind)
   grind
  ·intro h;have:=Zn (Zy d) (show 0 <= -x by grind)
   grind
def zpi{l:List (Rat×Rat)}{i:Nat}(d:i<l.length):(B9 l).drop i=zcl (rnd l i) (rnd l (i+1))::(B9 l).drop (i+1):=by
 have f:i<(B9 l).length:=by unfold B9;rw[Zc,zbq];exact d
 rw[Jk f];congr 1
 have e:i<(pairsOf l).length:=by rw[zbq];exact d
 have g:=znj (l:=l) (k:=i) (Zi e);have a:=zaj (l:=l) vB i;have b:=zaj (l:=l) vB (i+1);rw[Zj d] at a;rw[a] at g;rw[b] at g;have h:=Zw g.1;have m:=Zw g.2;show(List.map (λp=>zcl p.1 p.2) (pairsOf l))[i]'(by rw[Zc];exact e)=_;rw[Va,<-h,<-m]
def zrq{l:List (Rat×Rat)}{i:Nat}(d:¬i<l.length):(B9 l).drop i=[]:=by
 refine List.drop_eq_nil_of_le ?_;unfold B9;rw[Zc,zbq];omega
def zgd{l:List (Rat×Rat)}(d:l.Nodup)(f:2<=l.length)(i:Nat):rnd l i≠rnd l (i+1):=λe=>by
 have:=zlb d vB e.symm
 have a:=Wp i (show 0<l.length by omega);rw[<-Wt] at this;rcases Yf (i%l.length+1) l.length with k|k
 ·rw[Zj k] at this;omega
 ·rw[show i%l.length+1=l.length by omega,Jh] at this;omega
def bend1(l:List H3):zjt l []=1:=by cases l<;>rfl
def bend2(x:H3)(l:List H3):zjt [] (x::l) = -1:=rfl
def yaw{l r:List (Rat×Rat)}(g:l.Nodup)(m:r.Nodup)(l2:2<=l.length)(n:2<=r.length)(i j:Nat):
  (0<=zjt ((B9 l).drop i) ((B9 r).drop j)↔0<=bend (rnd l) (rnd r) l.length r.length i j)/\(zjt ((B9 l).drop i) ((B9 r).drop j)<=0↔bend (rnd l) (rnd r) l.length r.length i j<=0):=by
 unfold bend;by_cases d:j<r.length
 ·rw[if_pos d,zpi d];by_cases f:i<l.length
  ·rw[if_pos f,zpi f];obtain⟨k,o,e⟩:=ynt (zgd g l2 i) (zgd m n j)
   exact yjo o e
  ·rw[if_neg f,zrq f,bend2];exact⟨⟨λh=>absurd h vA,λh=>absurd h vA⟩,⟨λ_=>by decide,λ_=>by decide⟩⟩
 ·rw[if_neg d,zrq d,bend1];exact⟨⟨λ_=>by decide,λ_=>by decide⟩,⟨λh=>absurd h vA,λh=>absurd h vA⟩⟩
def zsn{l:List (Rat×Rat)}(f:l.Nodup)(g:2<=l.length)(d:SzL 165 l):∀s∈B9 l,HB 3000 s:=λs h=>by
 obtain⟨p,m,e⟩:=Zv.mp h
 obtain⟨a,b,c⟩:=zyg f g m
 rw[<-e];exact yjq (d _ b).1 (d _ b).2 (d _ c).1 (d _ c).2 a
theorem zrl(d:Γ 67=zdh)(h:Γ 83=znr){l r:List (Rat×Rat)}(o:l.Nodup)(p:r.Nodup)(l2:2<=l.length)(t:2<=r.length)(u:SzL 165 l)(v:SzL 165 r)(V:l.length<=400)(W:r.length<=400):
  ∀(k i j:Nat) (C:List D) (c:Option B),i<=l.length->j<=r.length->l.length+r.length<=k+i+j->C.length+k<=1000 ->
  ∃(w E:Int) (F:Option B),zar (evB Γ zja) (exs Γ zfx) (k+1) [~~~.lst (l.map stD),~~~.lst (r.map stD),some (.ow ((B9 l).map hD)),some (.ow ((B9 r).map hD)),some (.ow C),~~~.int (i:Int),~~~.int (j:Int),c]
   = some (.nx [~~~.lst (l.map stD),~~~.lst (r.map stD),some (.ow ((B9 l).map hD)),some (.ow ((B9 r).map hD)),some (.ow (C++(walk (rnd l) (rnd r) l.length r.length k (i,j)).map λs=>stD (at2 (rnd l) (rnd r) s))),~~~.int w,~~~.int E,F])
 |0,i,j,C,c,G,H,X,Y=>by
  refine⟨i,j,c,?_⟩
  unfold zar;rw[zlx (n:=(l.length:Int)) (m:=(r.length:Int)) (r:=false) (by rw[Zc]) (by rw[Zc]) (decide_eq_false vB)];unfold walk;rw[Wh,Qm]
 |k+1,i,j,C,c,G,H,X,Y=>by
  unfold zar;by_cases I:i<l.length\/j<r.length
  ·rw[zlx (n:=(l.length:Int)) (m:=(r.length:Int)) (r:=true) (by rw[Zc]) (by rw[Zc]) (decide_eq_true vB)];have M:0<l.length:=by omega
   have N:0<r.length:=by omega
   have Z:=zaj M i;have g2:=zaj N j;have a1:L2.atI (l.map stD) ((i:Int)%(l.length:Int))=some (stD (rnd l i)):=by
    rw[<-Int.natCast_emod];exact zkm (by rw[Zh,Z];rfl)
   have a2:L2.atI (r.map stD) ((j:Int)%(r.length:Int))=some (stD (rnd r j)):=by
    rw[<-Int.natCast_emod];exact zkm (by rw[Zh,g2];rfl)
   have ml:=u _ (B8 M i);have mr:=v _ (B8 N j);have f:=zot ml mr;have J:=zsn o l2 u;have K:=zsn p t v;have g:=yge (A:=(B9 l).drop i) (B:=(B9 r).drop j) (λs L=>J s (Gh L)) (λs L=>K s (Gh L));have sl1:(B9 l).length=l.length:=by unfold B9;rw[Zc,zbq]
   have sl2:(B9 r).length=r.length:=by unfold B9;rw[Zc,zbq]
   have O:=ycj d h (c:=c) (C:=C) (n:=(l.length:Int)) (m:=(r.length:Int)) (by rw[Zc]) (by rw[Zc]) vB vB (eq_false vB) (eq_false vB) (zcd vB vB) (zcd vB vB) a1 a2 f rfl (eq_true (by rw[Qk];omega))
    (zlw (l:=(B9 l).map hD) (by rw[Zc,sl1];exact G)) (zlw (l:=(B9 r).map hD) (by rw[Zc,sl2];exact H)) (by rw[<-Jr,<-Jr];exact g)
   obtain⟨R,T⟩:=yaw o p l2 t i j
   have e1:(if 0<=zjt ((B9 l).drop i) ((B9 r).drop j) then(i:Int)+1 else(i:Int))=((nxt (rnd l) (rnd r) l.length r.length (i,j)).1:Int):=by
    unfold nxt;dsimp only;by_cases q:0<=zjt ((B9 l).drop i) ((B9 r).drop j)
    ·rw[if_pos q,if_pos (R.mp q)];rfl
    ·rw[if_neg q,if_neg λz=>q (R.mpr z)]
   have e2:(if zjt ((B9 l).drop i) ((B9 r).drop j)<=0 then(j:Int)+1 else(j:Int))=((nxt (rnd l) (rnd r) l.length r.length (i,j)).2:Int):=by
    unfold nxt;dsimp only;by_cases q:zjt ((B9 l).drop i) ((B9 r).drop j)<=0
    ·rw[if_pos q,if_pos (T.mp q)];rfl
    ·rw[if_neg q,if_neg λz=>q (T.mpr z)]
   rw[e1,e2] at O;have S:=zxx (P:=rnd l) (Q:=rnd r) (s:=(i,j)) G H I;have U:(nxt (rnd l) (rnd r) l.length r.length (i,j)).1<=l.length/\(nxt (rnd l) (rnd r) l.length r.length (i,j)).2<=r.length/\i+j+1<=(nxt (rnd l) (rnd r) l.length r.length (i,j)).1+(nxt (rnd l) (rnd r) l.length r.length (i,j)).2:=by
    rcases S with⟨e,a,_⟩|⟨e,a,_⟩|⟨e,a,a',_⟩<;>rw[e]<;>dsimp only at * <;> omega
   obtain⟨w,E,F,ih⟩:=zrl d h o p l2 t u v V W k _ _ (C++[stD (pshR (rnd r j) (rnd l i))]) (~~~.int (zjt ((B9 l).drop i) ((B9 r).drop j))) U.1 U.2.1 vB (by rw[Z5,Zr,Q4];omega)
   refine⟨w,E,F,?_⟩
   simp only[O];rw[ih];conv=>rhs;unfold walk
   rw[if_pos I,Zx,Bc];rfl
  ·rw[zlx (n:=(l.length:Int)) (m:=(r.length:Int)) (r:=false) (by rw[Zc]) (by rw[Zc]) (decide_eq_false vB)];refine⟨i,j,c,?_⟩
   unfold walk;rw[if_neg I,Wh,Qm]
abbrev zhx:List (Nat×(∅)):=[(40,zed),(67,zdh),(83,znr)]
def zfs:∅:=run (tab zhx) zhl 8
def ok_summed(f:Γ 40=zed)(g:Γ 67=zdh)(l:Γ 83=znr):∀d w,d.length=2->zfs d=some w->run Γ zhl 8 d=some w:=λd w _ h=>zcb zhx (by
 intro p e;rcases Zg.mp e with rfl|e;exact f
 rcases Zg.mp e with rfl|e;exact g
 rcases Zp.mp e with rfl;exact l) vA d w h
def ztw{h:∅}(l:Γ 40=h){e d f g O:List D}{i j:Int}{c:Option B}(m:h [.lst e]=some (.new f))(n:h [.lst d]=some (.new g))(o:lfL f=true)(p:lfL g=true)
 (w:zhp (evB Γ zja) (exs Γ zfx) [~~~.lst e,~~~.lst d,some (.ow f),some (.ow g),some (.ow []),~~~.int 0,~~~.int 0,none]=some (.nx [~~~.lst e,~~~.lst d,some (.ow f),some (.ow g),some (.ow O),~~~.int i,~~~.int j,c])):
  run Γ zhl 8 [.lst e,.lst d]=some (.new O):=by
 show run Γ #v[.asg 2 (.call 40 #v[.var 0]),.asg 3 (.call 40 #v[.var 1]),.asg 4 (.lst .nil),.asg 5 (.int 0),.asg 6 (.int 0),.whl zja zfx,.retV 4] 8 _=_;generalize zja=q at *;generalize zfx=r at *;walk_at "evh"
def ztx{l r:List (Rat×Rat)}(h:l.Nodup)(m:r.Nodup)(l2:2<=l.length)(n:2<=r.length)(o:SzL 165 l)(p:SzL 165 r)(q:l.length<=400)(s:r.length<=400):zfs [.lst (l.map stD),.lst (r.map stD)]=some (.new ((sumL l r).map stD)):=by
 unfold zfs;generalize d:tab zhx=Γ;have e:Γ 40=zed:=by rw[<-d];rfl
 have f:Γ 67=zdh:=by rw[<-d];rfl
 have g:Γ 83=znr:=by rw[<-d];rfl
 obtain⟨t,u,v,w⟩:=zrl f g h m l2 n o p q s (l.length+r.length) 0 0 [] none (Yj _) (Yj _) vB (by rw[Q4];omega)
 have:=ztw e (zic h l2 vB o) (zic m n vB p) (zgj _) (zgj _) (zeq w)
 rw[this];show _=some (W.new (((Mg.sumW l r).map (at2 (rnd l) (rnd r))).map stD));rw[Ye,List.nil_append];rfl
end
open Sf Mg
structure Ov(d:Int)(B:Nat)(q:Rat×Rat):Prop where
 ex:∃x y:Int,q.1=Rat.divInt x d/\q.2=Rat.divInt y d/\x.natAbs<2^B/\y.natAbs<2^B
def zzs{a b c d:Int}(e:b≠0)(f:d≠0):Rat.divInt a b+Rat.divInt c d=Rat.divInt (a*d+c*b) (b*d):=Q7 _ _ e f
def zbw{a b:Int}{m n k:Nat}(h:a.natAbs<2^m)(g:b.natAbs<2^n)(d:m+n<=k):(a*b).natAbs<2^k:=by
 rw[Yb];exact Zf (zay h g) (Bx d)
def zxg{a b:Int}{k:Nat}(h:a.natAbs<2^k)(g:b.natAbs<2^k):(a+b).natAbs<2^(k+1):=Yk (U2 a b) (by rw[Ua,Vp];exact V4 h g)
def zru{a b:Int}{k:Nat}(h:a.natAbs<2^k)(g:b.natAbs<2^k):(a-b).natAbs<2^(k+1):=Yk (Int.natAbs_sub_le a b) (by rw[Ua,Vp];exact V4 h g)
theorem Ov.pl{d e:Int}{B C m n k:Nat}{u v:Rat×Rat}(q:Ov d B u)(r:Ov e C v)(f:d≠0)(g:e≠0)(h:d.natAbs<2^m)(l:e.natAbs<2^n)(o:B+n<=k)(p:C+m<=k):Ov (d*e) (k+1) (pl u v):=by
 obtain⟨x,y,s,t,A,D⟩:=q.ex
 obtain⟨z,w,E,F,G,H⟩:=r.ex
 refine⟨x*e+z*d,y*e+w*d,?_,?_,zxg (zbw A l o) (zbw G h p),zxg (zbw D l o) (zbw H h p)⟩
 ·show u.1+v.1=_;rw[s,E,zzs f g]
 ·show u.2+v.2=_;rw[t,F,zzs f g]
def zrs(x:Rat):x=Rat.divInt x.num (x.den:Int):=(Yo x).symm
def zoh(x:Rat):(x.den:Int)≠0:=by have:=x.den_nz;omega
theorem Ov.sc{d:Int}{B a b k:Nat}{q:Rat×Rat}{x:Rat}(f:Ov d B q)(e:Sy a b x)(h:B+a<=k):Ov (d*(x.den:Int)) k (sc x q):=by
 obtain⟨z,w,g,l,m,n⟩:=f.ex
 refine⟨z*x.num,w*x.num,?_,?_,zbw m e.t h,zbw n e.t h⟩
 ·show q.1*x=_;rw[g];conv=>lhs;rw[zrs x];rw[Q6]
 ·show q.2*x=_;rw[l];conv=>lhs;rw[zrs x];rw[Q6]
def Ov.pt{a b k:Nat}{p:Rat×Rat}(d:Sy a b p.1)(e:Sy a b p.2)(f:a+b<=k):Ov ((p.1.den:Int)*(p.2.den:Int)) k p:=by
 have g:=zoh p.1;have h:=zoh p.2;have l:((p.1.den:Nat):Int).natAbs<2^b:=d.b;have m:((p.2.den:Nat):Int).natAbs<2^b:=e.b;refine⟨p.1.num*(p.2.den:Int),p.2.num*(p.1.den:Int),?_,?_,zbw d.t m f,zbw e.t l f⟩
 ·conv=>lhs;rw[zrs p.1]
  rw[Go h]
 ·conv=>lhs;rw[zrs p.2]
  rw[Qu (p.1.den:Int),Go g]
def SyL(a b:Nat)(l:List (Rat×Rat)):Prop:=∀q∈l,Sy a b q.1/\Sy a b q.2
theorem SyL.sz{a b n:Nat}{l:List (Rat×Rat)}(h:SyL a b l)(d:a<=n)(e:b<=n):SzL n l:=λq f=>⟨(h q f).1.sz d e,(h q f).2.sz d e⟩
def psh_pl(p:Rat×Rat):pshR p=pl p:=by
 funext q
 unfold pshR pl;exact Yh (U4 _ _) (U4 _ _)
open Sf Mg
section
variable{Γ:Nat->∅}
end
open Sf Mg
def su_int{l r:List (Rat×Rat)}(d:IsShp l)(e:IsShp r)(f:SzL 165 l)(g:SzL 165 r)(h:l.length<=400)(m:r.length<=400):zfs [.lst (l.map stD),.lst (r.map stD)]=some (.new ((sumL l r).map stD)):=
 ztx (nodup d) (nodup e) (by have:=d.three;omega) (by have:=e.three;omega) f g h m
open Sf Mg
section
variable{Γ:Nat->∅}
abbrev q60:Int:=1000000000000000000000000000000000000000000000000000000000007
def zfa:∅:=run (tab []) zbz 6
def ok_law_numbers:∀d w,d.length=2->zfa d=some w->run Γ zbz 6 d=some w:=λd w _ h=>zcb [] (λp e=>by cases e) vA d w h
abbrev zdl:Ss:=#v[.asg 4 (.int 0),.iff (.cmp .gt (.bi .len #v[.var 0]) (.int 0)) #v[.asg 4 (.bin .mod (.ix (.var 0) (.bin .mod (.var 2) (.bi .min #v[.bi .len #v[.var 0],.int 63]))) (.bin .add (.bin .pow (.int 10) (.int 60)) (.int 7)))] .nil,.asg 5 (.bin .mod (.var 2) (.var 1)),.seti 3 (.var 5) (.bin .mod (.bin .add (.bin .add (.bin .mul (.ix (.var 3) (.var 5)) (.int 48271)) (.var 4)) (.bin .mul (.var 2) (.var 2))) (.bin .add (.bin .pow (.int 10) (.int 60)) (.int 7)))]
def zyb{e f:List D}{L m k c x:Int}{j:Nat}{n o:Option B}(r:(e.length:Int)=L)(p:(0<L)=True)(q:(63<L)=False)(d:L≠0)(g:m≠0)(h:0<m)
 (s:L2.atI e (k%L)=some (.int c))(t:L2.atI f (k%m)=some (.int x))(u:L2.ixN f.length (k%m)=some j)(o1:Bz x 48271=true)(o2:Bz k k=true):
  exs Γ zdl [~~~.lst e,~~~.int m,~~~.int k,some (.ow f),n,o]=some (.nx [~~~.lst e,~~~.int m,~~~.int k,some (.ow (f.set j (.int ((x*48271+c%q60+k*k)%q60)))),~~~.int (c%q60),~~~.int (k%m)]):=by
 have l:0<L:=of_eq_true p;have v:=zaw (a:=k) l;have w:=zaw (a:=k) h;have z:(L=0)=False:=eq_false d;have A:(m=0)=False:=eq_false g;have C:∀y:Int,y.fmod 1000000000000000000000000000000000000000000000000000000000007=y%1000000000000000000000000000000000000000000000000000000000007:=λy=>zaw vA
 have E:((1000000000000000000000000000000000000000000000000000000000007:Int)=0)=False:=eq_false vA;unfold zdl q60;clear d g h l;walk_at "evh"
def zyc{d:List D}{m k x:Int}{j:Nat}{g h:Option B}(e:m≠0)(f:0<m)(l:L2.atI d (k%m)=some (.int x))(n:L2.ixN d.length (k%m)=some j)(o1:Bz x 48271=true)(o2:Bz k k=true):
  exs Γ zdl [~~~.lst [],~~~.int m,~~~.int k,some (.ow d),g,h]=some (.nx [~~~.lst [],~~~.int m,~~~.int k,some (.ow (d.set j (.int ((x*48271+0+k*k)%q60)))),~~~.int 0,~~~.int (k%m)]):=by
 have o:=zaw (a:=k) f;have p:(m=0)=False:=eq_false e;have q:∀y:Int,y.fmod 1000000000000000000000000000000000000000000000000000000000007=y%1000000000000000000000000000000000000000000000000000000000007:=λy=>zaw vA
 have r:((1000000000000000000000000000000000000000000000000000000000007:Int)=0)=False:=eq_false vA;have s:((([]:List D).length:Nat):Int)=0:=rfl;unfold zdl q60;clear e f;walk_at "evh"
abbrev zly:E:=(.comp (.int 0) (.name 1) (.range1 (.var 1)) 2 [] .non)
def ylr{d Z O:List D}{m N L:Int}{e f g:Option B}(l:(d.length:Int)=L)(h:(63<L)=False)(n:(if m<L then L else m)=N)(o:(-4611686018427387904<=N/\N<4611686018427387904)=True)
 (p:ev Γ zly [some (.lst d),some (.int m),none,none,none,none]=some (.new Z))(q:lfL Z=true)
 (r:forN (zas (.name 2)) (exs Γ zdl) (zao 0 N.toNat) [~~~.lst d,~~~.int m,none,some (.ow Z),none,none]=some (.nx [~~~.lst d,~~~.int m,e,some (.ow O),f,g])):
  run Γ zbz 6 [.lst d,.int m]=some (.new O):=by
 show run Γ #v[.asg 3 zly,.frr (.name 2) (.range1 (.bi .max #v[.var 1,.bi .min #v[.bi .len #v[.var 0],.int 63]])) zdl,.retV 3] 6 _=_;generalize zly=s at *;generalize zdl=t at *;walk_at "evh"
def zxb(m:Nat):(List.replicate m (0:Int)).map D.int=(List.range m).map λ_=>D.int 0:=by
 rw[List.map_replicate,List.map_const',Z7]
def zxe(m:Nat):zao 0 ((m:Int).toNat)=(List.range m).map λ(k:Nat)=>D.int (0+(k:Int)):=by
 rw[Z9];rfl
def yni{d:D}{m:Nat}(h:m<=1000):evW Γ (.range1 (.var 1)) [some d,some (.int (m:Int)),none,none,none,none]=some ((List.range m).map λ(k:Nat)=>D.int (0+(k:Int))):=by
 have e:evd Γ (.var 1) [some d,some (.int (m:Int)),none,none,none,none]=some (.int (m:Int)):=by walk_at "evh"
 rw[evW_range1,e,Yg,yaa,Yg,if_pos ⟨by omega,by omega⟩,zxe]
def yfm{e:D}{m:Nat}(h:m<=1000):ev Γ zly [some e,some (.int (m:Int)),none,none,none,none]=some (.new ((List.replicate m (0:Int)).map D.int)):=by
 rw[zxb];have f:(1000:Nat)<=PySem.sizeLine:=by decide
 refine zce (l:=List.range m) (g:=λ(k:Nat)=>D.int (0+(k:Int))) (h:=λ_=>D.int 0) (yni h) (by rw[Z7];omega) rfl (λx _=>?_);clear h f;generalize D.int (0+(x:Int))=d;generalize D.int (m:Int)=n;walk_at "evh"
theorem zqc:∀l:List Int,lfL (l.map D.int)=true
 |[]=>rfl
 |_::l=>zqc l
def zbx{hs:List Int}{j:Nat}(h:j<hs.length):L2.atI (hs.map D.int) (j:Int)=some (.int hs[j]):=zkm (by rw[Zh,Zi h];rfl)
def ixN_of{n j:Nat}(h:j<n):L2.ixN n (j:Int)=some j:=by
 unfold L2.ixN;rw[if_pos vB];simp[h]
def zpw(g:List Int)(Q:g.length<=63)(m:Nat)(R:1<=m)(J:m<=40):∃f:List Int,f.length=m/\(∀h∈f,0<=h/\h<q60)/\zfa [.lst (g.map D.int),.int (m:Int)]=some (.new (f.map D.int)):=by
 have key:∀N:Nat,N<=100->∃l,forN (zas (.name 2)) (exs (tab []) zdl) (zao 0 N) [~~~.lst (g.map D.int),~~~.int (m:Int),none,some (.ow ((List.replicate m (0:Int)).map D.int)),none,none]=some (.nx l) /\
   ∃(f:List Int) (n o p:Option B),(f.length=m/\∀h∈f,0<=h/\h<q60)/\l=[~~~.lst (g.map D.int),~~~.int (m:Int),n,some (.ow (f.map D.int)),o,p]:=λN A=>by
  refine zst (I:=λC=>∃(f:List Int) (n o p:Option B),(f.length=m/\∀h∈f,0<=h/\h<q60)/\C=[~~~.lst (g.map D.int),~~~.int (m:Int),n,some (.ow (f.map D.int)),o,p]) _ (λd E C t=>?_) _ ⟨List.replicate m 0,none,none,none,⟨Y5,λh u=>by rw[(List.mem_replicate.mp u).2];decide⟩,rfl⟩;obtain⟨f,n,o,p,⟨r,s⟩,rfl⟩:=t
  unfold zao at E;obtain⟨k,F,e⟩:=Zv.mp E
  have F:=Yw.mp F;rw[Vc] at e;subst e;have v:k%m<f.length:=by rw[r];exact Wp _ vB
  have K:(k:Int)%(m:Int)=((k%m:Nat):Int):=rfl;have G:L2.atI (f.map D.int) ((k:Int)%(m:Int))=some (.int f[k%m]):=zbx v;have H:L2.ixN (f.map D.int).length ((k:Int)%(m:Int))=some (k%m):=by rw[Zc,K];exact ixN_of v
  have w:=s _ (Kk v);have o1:Bz f[k%m] 48271=true:=zag vB (by have:=w.2;unfold q60 at this;omega) vA vA;have o2:Bz (k:Int) (k:Int)=true:=zag vB vB vB vB;have q:∀y:Int,(f.set (k%m) (y%q60)).length=m/\∀h∈f.set (k%m) (y%q60),0<=h/\h<q60:=λy=>by
   refine⟨by rw[W6];exact r,λh u=>?_⟩
   rcases List.mem_or_eq_of_mem_set u with z|z
   ·exact s h z
   ·subst z;exact⟨W9 _ vA,Ks _ vA⟩
  by_cases z:g=[]
  ·subst z;refine⟨_,_,rfl,zyc vB vB G H o1 o2,f.set (k%m) ((f[k%m]*48271+0+(k:Int)*(k:Int))%q60),_,_,_,q _,by rw[List.map_set];rfl⟩
  ·have M:0<g.length:=List.length_pos_iff.mpr z;have O:k%g.length<g.length:=Wp _ M;refine⟨_,_,rfl,zyb (L:=(g.length:Int)) (c:=g[k%g.length]) (by rw[Zc]) (eq_true vB) (eq_false vB) vB vB vB (zbx O) G H o1 o2,f.set (k%m) ((f[k%m]*48271+g[k%g.length]%q60+(k:Int)*(k:Int))%q60),_,_,_,q _,by rw[List.map_set]⟩
 obtain⟨N,A,e⟩:∃N:Nat,N<=100/\(if (m:Int)<(g.length:Int) then(g.length:Int) else(m:Int))=(N:Int):=by
  by_cases z:(m:Int)<(g.length:Int)
  ·exact⟨g.length,by omega,if_pos z⟩
  ·exact⟨m,by omega,if_neg z⟩
 obtain⟨l,P,f,n,o,p,⟨r,s⟩,rfl⟩:=key N A
 refine⟨f,r,s,?_⟩
 unfold zfa;exact ylr (L:=(g.length:Int)) (N:=(N:Int)) (by rw[Zc]) (eq_false vB) e (eq_true ⟨by omega,by omega⟩) (yfm vB) (zqc _) (by rw[Z9];exact P)
end
open Sf Mg
section
variable{Γ:Nat->∅}
def zfb:∅
 |[.int t,.int b]=>if 0<b/\b.natAbs<2^9000 then some (.val (fr (Rat.divInt t b))) else none
 |_=>none
def zis{t b:Int}(h:0<b)(d:b.natAbs<2^9000):zfb [.int t,.int b]=some (.val (fr (Rat.divInt t b))):=if_pos ⟨h,d⟩
def ok_law_fraction(g:Γ 12=zan):∀d w,d.length=2->zfb d=some w->run Γ zcj 3 d=some w:=by
 intro d w _ h;unfold zfb at h;split at h
 ·rename_i t b _;split at h
  ·rename_i z;cases h;have e:b≠0:=by omega
   obtain⟨m,l⟩:=zsx (t:=t) e z.2
   rw[yhu e];have f:¬b<0:=by omega
   unfold low1 Sf.low2 by_ zcj;rw[if_neg f];have n:=@zdr;clear z e f l;walk_at "evh"
  ·cases h
 ·cases h
def zir:∅:=fr2 okRR λx y=>fr (x+y)
def zdg:∅:=fr2 okRR λx y=>fr (x*y)
def den2{x y:Rat}(d:Sz 4400 x)(e:Sz 4400 y):0<(x.den:Int)*(y.den:Int)/\((x.den:Int)*(y.den:Int)).natAbs<2^9000:=by
 refine⟨Wy (den_pos x) (den_pos y),?_⟩
 rw[Yb,Yp,Yp];exact Zf (zay d.b e.b) (Bx vA)
def ok_law_plus(e:Γ 103=zfb):∀d w,d.length=2->zir d=some w->run Γ zga 2 d=some w:=by
 intro d w _ h;obtain⟨x,y,rfl,f,rfl⟩:=zcw h
 obtain⟨sx,sy⟩:=zek f
 obtain⟨g,l⟩:=den2 sx sy
 have m:Bz x.num (y.den:Int)=true:=Bu sx.t (Bs sy) vA vA;have n:Bz y.num (x.den:Int)=true:=Bu sy.t (Bs sx) vA vA;have o:Bz (x.den:Int) (y.den:Int)=true:=Bu (Bs sx) (Bs sy) vA vA;have q:=zis (t:=x.num*(y.den:Int)+y.num*(x.den:Int)) g l;rw[add_r] at q;clear sx sy g l f h;unfold zga;show run Γ _ 2 [fr x,fr y]=some (.val (fr (x+y)));generalize fr (x+y)=z at *;unfold fr;walk_at "evh"
def znl(e:Γ 103=zfb):∀d w,d.length=2->zdg d=some w->run Γ zbk 2 d=some w:=by
 intro d w _ h;obtain⟨x,y,rfl,f,rfl⟩:=zcw h
 obtain⟨sx,sy⟩:=zek f
 obtain⟨g,l⟩:=den2 sx sy
 have m:Bz x.num y.num=true:=Bu sx.t sy.t vA vA;have n:Bz (x.den:Int) (y.den:Int)=true:=Bu (Bs sx) (Bs sy) vA vA;have q:=zis (t:=x.num*y.num) g l;rw[mul_r] at q;clear sx sy g l f h;unfold zbk;show run Γ _ 2 [fr x,fr y]=some (.val (fr (x*y)));generalize fr (x*y)=z at *;unfold fr;walk_at "evh"
end
section
variable{Γ:Nat->∅}
def pP(p:Lb.Pt):D:=.tup [.int p.1,.int p.2]
abbrev zeo:Ss:=#v[.app 1 (.bin .add (.bin .add (.ix (.var 1) (.neg (.int 1))) (.int 1)) (.bin .mod (.bin .fdiv (.ix (.var 0) (.int 2)) (.bin .add (.int 2) (.bin .mul (.int 3) (.var 2)))) (.int 3)))]
abbrev zcx:Ss:=#v[.app 3 (.bin .add (.bin .add (.ix (.var 3) (.neg (.int 1))) (.int 1)) (.bin .mod (.bin .fdiv (.ix (.var 0) (.int 4)) (.bin .add (.int 1) (.bin .mul (.int 3) (.var 2)))) (.int 3)))]
def yej{f d:List D}{g k x:Int}{h l:Option B}(n:L2.atI f 2=some (.int g))(o:L2.atI d (-1)=some (.int x))(m:0<2+3*k)(p:zbu (2+3*k)=true)(q:Bz 3 k=true)(r:(d.length<PySem.sizeLine)=True):
  exs Γ zeo [~~~.lst f,some (.ow d),~~~.int k,h,l]=some (.nx [~~~.lst f,some (.ow (d++[.int (x+1+g/(2+3*k)%3)])),~~~.int k,h,l]):=by
 have e:=zls (a:=g) m;unfold zeo;clear m;walk_at "evh"
def zzb{f d:List D}{g k x:Int}{h l:Option B}(n:L2.atI f 4=some (.int g))(o:L2.atI d (-1)=some (.int x))(m:0<1+3*k)(p:zbu (1+3*k)=true)(q:Bz 3 k=true)(r:(d.length<PySem.sizeLine)=True):
  exs Γ zcx [~~~.lst f,h,~~~.int k,some (.ow d),l]=some (.nx [~~~.lst f,h,~~~.int k,some (.ow (d++[.int (x+1+g/(1+3*k)%3)])),l]):=by
 have e:=zls (a:=g) m;unfold zcx;clear m;walk_at "evh"
theorem zqg{bt:D->RhoS->Option RhoS}{fb:RhoS->Option Out}{I:Nat->RhoS->Prop}:∀(l:List D) (k:Nat) (e:RhoS),I k e->(∀j d e,l[j]? = some d->I (k+j) e->∃m f,bt d e=some m/\fb m=some (.nx f)/\I (k+j+1) f)->∃g,forN bt fb l e=some (.nx g)/\I (k+l.length) g
 |[],k,e,h,_=>⟨e,rfl,h⟩
 |d::l,k,e,h,st=>by
  obtain⟨m,f,n,o,p⟩:=st 0 d e rfl h
  obtain⟨g,q,r⟩:=zqg l (k+1) f p λj s e t u=>by
   obtain⟨v,w,a,b,c⟩:=st (j+1) s e (by rw[We];exact t) (by rw[show k+(j+1)=k+1+j by omega];exact u)
   exact⟨v,w,a,b,by rw[show k+1+j+1=k+(j+1)+1 by omega];exact c⟩
  refine⟨g,?_,by rw[Zr,show k+(l.length+1)=k+1+l.length by omega];exact r⟩
  unfold forN;rw[n];simp only
  rw[o];exact q
def zlr{bt:D->RhoS->Option RhoS}{fb:RhoS->Option Out}{I:Nat->RhoS->Prop}(n:Nat)(g:RhoS)(h:I 0 g)(t:∀(j:Nat) g,j<n->I j g->∃l m,bt (.int (j:Int)) g=some l/\fb l=some (.nx m)/\I (j+1) m):∃f,forN bt fb (zao 0 n) g=some (.nx f)/\I n f:=by
 have q:(zao 0 n).length=n:=by unfold zao;rw[Zc,Z7]
 obtain⟨f,e,r⟩:=zqg (bt:=bt) (fb:=fb) (I:=I) (zao 0 n) 0 g h λj d g o s=>by
  have p:=(Zm.mp o).1;rw[q] at p;unfold zao at o;rw[Zh,Uk p] at o;cases o;rw[Yz] at s |-;dsimp only;rw[Vc];exact t j g p s
 rw[Yz,q] at r;exact⟨f,e,r⟩
structure Gr(k:Nat)(xs:List Int):Prop where
 ex:∃ys x,xs=ys++[x]
 srt:xs.Pairwise (· < ·)
 len:xs.length=k+1
 bd:∀x∈xs,-3<=x/\x<=3*(k:Int)
def Gr.one{x:Int}(h : -3<=x/\x<=0):Gr 0 [x]:=⟨⟨[],x,rfl⟩,Wj _ _,rfl,λy d=>by rw[Zp.mp d];omega⟩
def Gr.more{k:Nat}{f:List Int}{x e:Int}(h:Gr k (f++[x]))(l:0<=e)(m:e<=2):Gr (k+1) (f++[x]++[x+1+e]):=by
 have n:=h.bd x (Ym _ (.head _));refine⟨⟨_,_,rfl⟩,Ud.mpr ⟨h.srt,Wj _ _,λy d z g=>?_⟩,by rw[Z5,h.len];rfl,λy d=>?_⟩
 ·rw[Zp.mp g];rcases Y6.mp d with q|q
  ·have:=(Ud.mp h.srt).2.2 y q x (.head _);omega
  ·rw[Zp.mp q];omega
 ·rcases Y6.mp d with q|q
  ·have:=h.bd y q;omega
  ·rw[Zp.mp q];omega
def zny{d:List Int}{x:Int}:L2.atI ((d++[x]).map D.int) (-1)=some (.int x):=by
 rw[Y3];exact L2.atI_last _ _
def yel{f:List D}{h:Int}(m:L2.atI f 2=some (.int h)){x:Int}(o : -3<=x/\x<=0)(n:Nat)(s:n<=10):∃d p,Gr n d/\forN (zas (.name 2)) (exs Γ zeo) (zao 0 n) [~~~.lst f,some (.ow ([x].map D.int)),none,none,none]=some (.nx [~~~.lst f,some (.ow (d.map D.int)),p,none,none]):=by
 have t:(1000:Nat)<=PySem.sizeLine:=by decide
 obtain⟨q,e,d,c,g,rfl⟩:=zlr (bt:=zas (.name 2)) (fb:=exs Γ zeo) (I:=λk l=>∃d c,Gr k d/\l=[~~~.lst f,some (.ow (d.map D.int)),c,none,none]) n _ ⟨[x],none,Gr.one o,rfl⟩ λj l u r=>by
  obtain⟨d,c,g,rfl⟩:=r
  obtain⟨v,y,rfl⟩:=g.ex
  have w:=g.len;refine⟨_,_,rfl,yej (k:=(j:Int)) m zny vB (zcd vB vB) (zag vA vA vB vB) (eq_true (by rw[Zc];omega)),_,~~~.int (j:Int),g.more (e:=h/(2+3*(j:Int))%3) vB vB,?_⟩
  simp only[Y3,Zx,Wh]
 exact⟨d,c,g,e⟩
def zzc{f:List D}{l:Int}{c1 c2:Option B}(o:L2.atI f 4=some (.int l)){x:Int}(p : -3<=x/\x<=0)(n:Nat)(s:n<=10):∃d h,Gr n d/\forN (zas (.name 2)) (exs Γ zcx) (zao 0 n) [~~~.lst f,c1,c2,some (.ow ([x].map D.int)),none]=some (.nx [~~~.lst f,c1,h,some (.ow (d.map D.int)),none]):=by
 have t:(1000:Nat)<=PySem.sizeLine:=by decide
 obtain⟨q,e,d,c,g,rfl⟩:=zlr (bt:=zas (.name 2)) (fb:=exs Γ zcx) (I:=λk m=>∃d c,Gr k d/\m=[~~~.lst f,c1,c,some (.ow (d.map D.int)),none]) n _ ⟨[x],c2,Gr.one p,rfl⟩ λj m u r=>by
  obtain⟨d,c,g,rfl⟩:=r
  obtain⟨v,y,rfl⟩:=g.ex
  have w:=g.len;refine⟨_,_,rfl,zzb (k:=(j:Int)) o zny vB (zcd vB vB) (zag vA vA vB vB) (eq_true (by rw[Zc];omega)),_,~~~.int (j:Int),g.more (e:=l/(1+3*(j:Int))%3) vB vB,?_⟩
  simp only[Y3,Zx,Wh]
 exact⟨d,c,g,e⟩
abbrev ztc:E:=(.comp (.bin .mul (.var 1) (.var 1)) (.name 1) (.seq (.bin .add (.var 1) (.var 3))) 2 [] .non)
abbrev zlz:E:=(.comp (.tup #v[.var 1,.bin .mul (.var 1) (.var 1)]) (.name 1) (.seqV 1) 2 [] .non)
abbrev zhj:E:=(.comp (.tup #v[.var 1,.bin .sub (.var 2) (.bin .mul (.var 1) (.var 1))]) (.name 1) (.rev (.var 3)) 2 [4] .non)
def yft{e g h SQ A C:List D}{n o l m n1 n2 M:Int}{p:List Int}{q f:Option B}(r:L2.atI e 1=some (.int n))(s:L2.atI e 2=some (.int o))(t:L2.atI e 3=some (.int l))(u:L2.atI e 4=some (.int m))
 (v:1+o%2=n1)(w:l/4%3=n2)(z:(-4611686018427387904<=n1/\n1<4611686018427387904)=True)(E:(-4611686018427387904<=n2/\n2<4611686018427387904)=True)
 (F:forN (zas (.name 2)) (exs Γ zeo) (zao 0 n1.toNat) [~~~.lst e,some (.ow [.int (n%3-3)]),none,none,none]=some (.nx [~~~.lst e,some (.ow g),q,none,none]))
 (G:forN (zas (.name 2)) (exs Γ zcx) (zao 0 n2.toNat) [~~~.lst e,some (.ow g),q,some (.ow [.int (l%4-3)]),none]=some (.nx [~~~.lst e,some (.ow g),f,some (.ow h),none]))
 (H:ev Γ ztc [some (.lst e),some (.lst g),f.map B.d,some (.lst h),none]=some (.new SQ))(I:zqd SQ=some p)(J:maxI p=some M)(K:Bz 2 M=true)
 (L:ev Γ zlz [some (.lst e),some (.lst g),f.map B.d,some (.lst h),some (.int (2*M+1+m/32%9))]=some (.new A))(N:ev Γ zhj [some (.lst e),some (.lst g),f.map B.d,some (.lst h),some (.int (2*M+1+m/32%9))]=some (.new C))
 (O:opW .add (.lst A) (.lst C)=some (.new (A++C))):run Γ zbe 5 [.lst e]=some (.new (A++C)):=by
 show run Γ #v[.asg 1 (.lst #v[.bin .sub (.bin .mod (.ix (.var 0) (.int 1)) (.int 3)) (.int 3)]),.frr (.name 2) (.range1 (.bin .add (.int 1) (.bin .mod (.ix (.var 0) (.int 2)) (.int 2)))) zeo,.asg 3 (.lst #v[.bin .sub (.bin .mod (.ix (.var 0) (.int 3)) (.int 4)) (.int 3)]),.frr (.name 2) (.range1 (.bin .mod (.bin .fdiv (.ix (.var 0) (.int 3)) (.int 4)) (.int 3))) zcx,.asg 4 (.bin .add (.bin .add (.bin .mul (.int 2) (.bi .max #v[ztc])) (.int 1)) (.bin .mod (.bin .fdiv (.ix (.var 0) (.int 4)) (.int 32)) (.int 9))),.ret (.bin .add zlz zhj)] 5 _=_;generalize zeo=P at *;generalize zcx=Q at *;generalize ztc=R at *;generalize zlz=S at *;generalize zhj=T at *;walk_at "evh"
end
open Sf Mg
section
variable{Γ:Nat->∅}
theorem zod:∀l:List Int,zqd (l.map D.int)=some l
 |[]=>rfl
 |a::l=>by
  show(zqd (l.map D.int)).map _=_;rw[zod l];rfl
theorem zym:∀l:List Int,l≠[]->∃m,maxI l=some m
 |[],h=>absurd rfl h
 |[a],_=>⟨a,rfl⟩
 |a::b::l,_=>by
  obtain⟨m,e⟩:=zym (b::l) (λz=>by cases z)
  exact⟨_,by unfold maxI;rw[e];rfl⟩
def sq_in{x y:Int}(h:x*x<=y*y): -(y.natAbs:Int)<=x/\x<=(y.natAbs:Int):=by
 have e:(y.natAbs:Int)*(y.natAbs:Int)=y*y:=Qn y;have n:(0:Int)<=(y.natAbs:Int):=Yv _;generalize (y.natAbs:Int)=m at *;constructor
 ·refine Ky.mp λz=>?_;have:=Wy (show 0 < -m-x by omega) (show 0<m-x by omega)
  have d:(-m-x)*(m-x)=x*x-m*m:=by grind
  omega
 ·refine Ky.mp λz=>?_;have:=Wy (show 0<x-m by omega) (show 0<x+m by omega)
  have d:(x-m)*(x+m)=x*x-m*m:=by grind
  omega
def zqz{A C:List D}(h:A.length+C.length<=1000):opW .add (.lst A) (.lst C)=some (.new (A++C)):=by
 have d:(1000:Nat)<=PySem.sizeLine:=by decide
 exact if_pos (Wc h d)
def zkv{x:Int}(d : -31<=x)(e:x<=31):Bz x x=true:=zag vB vB vB vB
def ynx{d e:List Int}{o1 o2 o3:Option D}(f:∀x∈d++e,-31<=x/\x<=31)(m:d.length+e.length<=1000):ev Γ ztc [o1,some (.lst (d.map D.int)),o2,some (.lst (e.map D.int)),o3]=some (.new (((d++e).map λx=>x*x).map D.int)):=by
 have p:(1000:Nat)<=PySem.sizeLine:=by decide
 rw[Ye];refine zce (l:=d++e) (g:=D.int) (h:=D.int ∘ λx=>x*x) ?_ (by rw[Z5];omega) rfl (λx n=>?_)
 ·have q:=zqz (A:=d.map D.int) (C:=e.map D.int) (by rw[Zc,Zc];exact m);rw[Y3];clear f m p;walk_at "evh"
 ·have o:=zkv (f x n).1 (f x n).2;clear f m p n;walk_at "evh"
  rfl
def yfn{d:List Int}{o1 o2 o3 o4:Option D}(f:∀x∈d,-31<=x/\x<=31)(n:d.length<=1000):ev Γ zlz [o1,some (.lst (d.map D.int)),o2,o3,o4]=some (.new ((d.map Lb.low2).map pP)):=by
 have p:(1000:Nat)<=PySem.sizeLine:=by decide
 rw[Ye];refine zce (l:=d) (g:=D.int) (h:=pP ∘ Lb.low2) ?_ vB rfl (λx m=>?_)
 ·clear f n p;walk_at "evh"
 ·have o:=zkv (f x m).1 (f x m).2;have e:(pP ∘ Lb.low2) x=.tup [.int x,.int (x*x)]:=rfl;clear f n p m;walk_at "evh"
def yac{d:List Int}{o1 o2 o3:Option D}{T:Int}(f:∀x∈d,-31<=x/\x<=31)(n:d.length<=1000):ev Γ zhj [o1,o2,o3,some (.lst (d.map D.int)),some (.int T)]=some (.new ((d.reverse.map (Lb.high2 T)).map pP)):=by
 have p:(1000:Nat)<=PySem.sizeLine:=by decide
 rw[Ye];refine zce (l:=d.reverse) (g:=D.int) (h:=pP ∘ Lb.high2 T) ?_ (by rw[Qq];omega) rfl (λx m=>?_)
 ·have e:(d.map D.int).reverse=d.reverse.map D.int:=by rw[List.map_reverse]
  have q:∀l,lstD (.lst l)=some l:=λ_=>rfl
  clear f n p;walk_at "evh"
 ·have o:=zkv (f x (Jv.mp m)).1 (f x (Jv.mp m)).2;have e:(pP ∘ Lb.high2 T) x=.tup [.int x,.int (T-x*x)]:=rfl;clear f n p m;walk_at "evh"
structure RgOk(R:List Lb.Pt):Prop where
 tri:Lb.Tri R
 three:3<=R.length
 few:R.length<=30
 bd:∀p∈R,(-4000<=p.1/\p.1<=4000)/\(-4000<=p.2/\p.2<=4000)
def ykk{n m:Nat}{h l:List Int}(o:Gr n h)(r:Gr m l)(H:1<=n)(I:n<=10)(J:m<=10){M T:Int}(w:maxI ((h++l).map λx=>x*x)=some M)(A:2*M<T)(K:T<=2*M+20):RgOk (h.map Lb.low2++l.reverse.map (Lb.high2 T)):=by
 obtain⟨B,u⟩:=zhh w
 obtain⟨z,C,e⟩:=Zv.mp B
 have e:z*z=M:=e;have v : -3<=z/\z<=30:=by
  rcases Y6.mp C with q|q
  ·have:=o.bd z q;omega
  ·have:=r.bd z q;omega
 have f:∀x:Int,-3<=x->x<=30->x*x<=900:=λx a b=>by
  have:=Y4 (show 0<=30-x by omega) (show 0<=30+x by omega)
  have t:(30-x)*(30+x)=900-x*x:=by grind
  omega
 have D:=f z v.1 v.2;rw[e] at D;have L:0<=M:=by
  have:=Qn z
  rw[<-e,<-this];exact Y4 (Yv _) (Yv _)
 have g:∀x∈h++l,-(z.natAbs:Int)<=x/\x<=(z.natAbs:Int):=λx d=>sq_in (by rw[e];exact u _ (Zv.mpr ⟨x,d,rfl⟩))
 have N:=r.len;have O:=o.len;refine⟨Lb.tri_bows (m:=(z.natAbs:Int)) o.srt (List.pairwise_reverse.mpr r.srt) (λx d=>g x (Kb _ d)) (λy E=>g y (Ym _ (Jv.mp E))) ?_,?_,?_,λp F=>?_⟩
 ·rw[Qn,e];exact A
 ·rw[Z5,Zc,Zc,Qq];omega
 ·rw[Z5,Zc,Zc,Qq];omega
 ·rcases Y6.mp F with q|q
  ·obtain⟨x,d,t⟩:=Zv.mp q
   have b:=o.bd x d;have s:=f x vB vB;have P:=u _ (Zv.mpr ⟨x,Kb _ d,rfl⟩);have G:0<=x*x:=by rw[<-Qn x];exact Y4 (Yv _) (Yv _)
   rw[<-t];exact⟨⟨by show -4000<=x;omega,by show x<=4000;omega⟩,by show -4000<=x*x;omega,by show x*x<=4000;omega⟩
  ·obtain⟨x,d,t⟩:=Zv.mp q
   have b:=r.bd x (Jv.mp d);have s:=f x vB vB;have G:0<=x*x:=by rw[<-Qn x];exact Y4 (Yv _) (Yv _)
   rw[<-t];exact⟨⟨by show -4000<=x;omega,by show x<=4000;omega⟩,by show -4000<=T-x*x;omega,by show T-x*x<=4000;omega⟩
def zgt:∅:=run (tab []) zbe 5
def zpv:∀d w,d.length=1->zgt d=some w->run Γ zbe 5 d=some w:=λd w _ h=>zcb [] (λp e=>by cases e) vA d w h
def yfu{f:List Int}(U:8<=f.length):∃R,RgOk R/\zgt [.lst (f.map D.int)]=some (.new (R.map pP)):=by
 have d:∀(j:Nat) (h:j<8),L2.atI (f.map D.int) (j:Int)=some (.int (f[j]'vB)):=λj h=>zbx vB
 obtain⟨F,H⟩:∃h,L2.atI (f.map D.int) 1=some (.int h):=⟨_,d 1 vA⟩
 obtain⟨u,v⟩:∃h,L2.atI (f.map D.int) 2=some (.int h):=⟨_,d 2 vA⟩
 obtain⟨l,I⟩:∃h,L2.atI (f.map D.int) 3=some (.int h):=⟨_,d 3 vA⟩
 obtain⟨J,w⟩:∃h,L2.atI (f.map D.int) 4=some (.int h):=⟨_,d 4 vA⟩
 obtain⟨A,K,L,V⟩:∃n:Nat,1+u%2=(n:Int)/\1<=n/\n<=2:=⟨(1+u%2).toNat,by omega,by omega,by omega⟩
 obtain⟨B,C,W⟩:∃n:Nat,l/4%3=(n:Int)/\n<=2:=⟨(l/4%3).toNat,by omega,by omega⟩
 obtain⟨m,N,o,O⟩:=yel (Γ:=tab []) v (x:=F%3-3) ⟨by omega,by omega⟩ A vB
 obtain⟨E,P,r,Q⟩:=zzc (Γ:=tab []) (c1:=some (.ow (m.map D.int))) (c2:=N) w (x:=l%4-3) ⟨by omega,by omega⟩ B vB
 have X:=o.len;have Y:=r.len;have s:∀x∈m,-31<=x/\x<=31:=λx g=>by have:=o.bd x g;omega
 have by_:∀x∈E,-31<=x/\x<=31:=λx g=>by have:=r.bd x g;omega
 obtain⟨M,t⟩:=zym ((m++E).map λx=>x*x) (λz=>by
  have:=congrArg List.length z
  rw[Zc,Z5,Q4] at this;omega)
 have G:=ykk o r L vB vB t (T:=2*M+1+J/32%9) vB vB;have Z:0<=M/\M<=1000:=by
  obtain⟨p,_⟩:=zhh t
  obtain⟨z,S,e⟩:=Zv.mp p
  have e:z*z=M:=e;have bz : -31<=z/\z<=31:=by
   rcases Y6.mp S with q|q
   ·exact s z q
   ·exact by_ z q
  have:=Y4 (show 0<=31-z by omega) (show 0<=31+z by omega)
  have C:(31-z)*(31+z)=961-z*z:=by grind
  have p0:0<=z*z:=by rw[<-Qn z];exact Y4 (Yv _) (Yv _)
  omega
 refine⟨_,G,?_⟩
 unfold zgt;rw[Y3];exact yft (n1:=(A:Int)) (n2:=(B:Int)) H v I w K C (eq_true ⟨by omega,by omega⟩) (eq_true ⟨by omega,by omega⟩) (by rw[Z9];exact O) (by rw[Z9];exact Q)
  (ynx (λx g=>(Y6.mp g).elim (s x) (by_ x)) vB) (zod _) t (zag vA vA vB vB) (yfn s vB) (yac by_ vB) (zqz (by rw[Zc,Zc,Zc,Zc,Qq];omega))
end
open Sf Mg
section
variable{Γ:Nat->∅}
abbrev zbh:Ss:=#v[.asg 3 (.tup #v[.bin .add (.ix (.var 1) (.int 0)) (.ix (.var 2) (.int 0)),.bin .add (.ix (.var 1) (.int 1)) (.ix (.var 2) (.int 1))]),.asg 4 (.bin .mod (.ix (.var 0) (.int 0)) (.int 5)),.iff (.cmp .eq (.var 4) (.int 2)) #v[.ret (.lst #v[.tup #v[.int 0,.int 0],.var 1,.var 3,.var 2])] .nil,.iff (.cmp .eq (.var 4) (.int 3)) #v[.ret (.lst #v[.tup #v[.int 0,.int 0],.var 1,.var 2])] .nil,.iff (.cmp .eq (.var 4) (.int 4)) #v[.asg 5 (.tup #v[.bin .add (.ix (.var 1) (.int 0)) (.ix (.var 3) (.int 0)),.bin .add (.ix (.var 1) (.int 1)) (.ix (.var 3) (.int 1))]),.asg 6 (.tup #v[.bin .add (.ix (.var 2) (.int 0)) (.ix (.var 3) (.int 0)),.bin .add (.ix (.var 2) (.int 1)) (.ix (.var 3) (.int 1))]),.ret (.lst #v[.tup #v[.int 0,.int 0],.var 1,.var 5,.tup #v[.bin .mul (.int 2) (.ix (.var 3) (.int 0)),.bin .mul (.int 2) (.ix (.var 3) (.int 1))],.var 6,.var 2])] .nil,.ret (.call 105 #v[.var 0])]
def zwz{h:List D}{l m n o e f g d:Int}(q:L2.atI h 1=some (.int l))(r:L2.atI h 2=some (.int m))(s:L2.atI h 3=some (.int n))(t:L2.atI h 4=some (.int o))(u:1+l%5=e)(v:m%7-3=f)(w:0-n%4=g)(z:1+o%5=d)
 (A:Bz e d=true)(B:Bz f g=true):run Γ zbd 7 [.lst h]=outO (exs Γ zbh [~~~.lst h,~~~.tup [.int e,.int f],~~~(.tup [.int g,.int (if e*d<=f*g then d+10 else d)]),none,none,none,none]):=by
 show run Γ (.cons (.asg 1 (.tup #v[.bin .add (.int 1) (.bin .mod (.ix (.var 0) (.int 1)) (.int 5)),.bin .sub (.bin .mod (.ix (.var 0) (.int 2)) (.int 7)) (.int 3)])) (.cons (.asg 2 (.tup #v[.bin .sub (.int 0) (.bin .mod (.ix (.var 0) (.int 3)) (.int 4)),.bin .add (.int 1) (.bin .mod (.ix (.var 0) (.int 4)) (.int 5))])) (.cons (.iff (.cmp .le (.bin .mul (.ix (.var 1) (.int 0)) (.ix (.var 2) (.int 1))) (.bin .mul (.ix (.var 1) (.int 1)) (.ix (.var 2) (.int 0)))) #v[.asg 2 (.tup #v[.ix (.var 2) (.int 0),.bin .add (.ix (.var 2) (.int 1)) (.int 10)])] .nil) zbh))) 7 _=_;generalize zbh=C at *;by_cases c:e*d<=f*g
 ·rw[if_pos c];have p:decide (e*d<=f*g)=true:=decide_eq_true c;clear c;walk_at "evh"
 ·rw[if_neg c];have p:decide (e*d<=f*g)=false:=decide_eq_false c;clear c;walk_at "evh"
section
variable{HS:List D}{h0 u0 u1 v0 v1:Int}(a0:L2.atI HS 0=some (.int h0))
include a0
def ring_2(e:h0%5=2):outO (exs Γ zbh [~~~.lst HS,~~~.tup [.int u0,.int u1],~~~.tup [.int v0,.int v1],none,none,none,none])=some (.new [.tup [.int 0,.int 0],.tup [.int u0,.int u1],.tup [.int (u0+v0),.int (u1+v1)],.tup [.int v0,.int v1]]):=by
 unfold zbh;walk_at "evh"
def ring_3(e:h0%5=3):outO (exs Γ zbh [~~~.lst HS,~~~.tup [.int u0,.int u1],~~~.tup [.int v0,.int v1],none,none,none,none])=some (.new [.tup [.int 0,.int 0],.tup [.int u0,.int u1],.tup [.int v0,.int v1]]):=by
 unfold zbh;walk_at "evh"
def ring_4(e:h0%5=4)(d:Bz 2 (u0+v0)=true)(f:Bz 2 (u1+v1)=true):outO (exs Γ zbh [~~~.lst HS,~~~.tup [.int u0,.int u1],~~~.tup [.int v0,.int v1],none,none,none,none])=some (.new [.tup [.int 0,.int 0],.tup [.int u0,.int u1],.tup [.int (u0+(u0+v0)),.int (u1+(u1+v1))],.tup [.int (2*(u0+v0)),.int (2*(u1+v1))],.tup [.int (v0+(u0+v0)),.int (v1+(u1+v1))],.tup [.int v0,.int v1]]):=by
 unfold zbh;walk_at "evh"
def ykg{z:Int}{φ:∅}(d:Γ 105=φ){w:W}(e:h0%5=z)(f:decide (z=2)=false)(g:decide (z=3)=false)(h:decide (z=4)=false)(q:φ [.lst HS]=some w):outO (exs Γ zbh [~~~.lst HS,~~~.tup [.int u0,.int u1],~~~.tup [.int v0,.int v1],none,none,none,none])=some w:=by
 unfold zbh;walk_at "evh"
end
def zey:∅:=run (tab [(105,zgt)]) zbd 7
def znm(d:Γ 105=zgt):∀e w,e.length=1->zey e=some w->run Γ zbd 7 e=some w:=λe w _ h=>zcb [(105,zgt)] (λp f=>by rw[Zp.mp f];exact d) vA e w h
def ydc{n:List Int}(t:8<=n.length):∃R,RgOk R/\zey [.lst (n.map D.int)]=some (.new (R.map pP)):=by
 have m:∀(j:Nat) (h:j<8),L2.atI (n.map D.int) (j:Int)=some (.int (n[j]'vB)):=λj h=>zbx vB
 obtain⟨r,s⟩:∃h,L2.atI (n.map D.int) 0=some (.int h):=⟨_,m 0 vA⟩
 obtain⟨v,A⟩:∃h,L2.atI (n.map D.int) 1=some (.int h):=⟨_,m 1 vA⟩
 obtain⟨B,C⟩:∃h,L2.atI (n.map D.int) 2=some (.int h):=⟨_,m 2 vA⟩
 obtain⟨E,F⟩:∃h,L2.atI (n.map D.int) 3=some (.int h):=⟨_,m 3 vA⟩
 obtain⟨G,H⟩:∃h,L2.atI (n.map D.int) 4=some (.int h):=⟨_,m 4 vA⟩
 obtain⟨l,I,Q⟩:∃u,1+v%5=u/\1<=u/\u<=5:=⟨_,rfl,by omega,by omega⟩
 obtain⟨g,J,S⟩:∃u,B%7-3=u /\ -3<=u/\u<=3:=⟨_,rfl,by omega,by omega⟩
 obtain⟨d,K,T⟩:∃u,0-E%4=u /\ -3<=u/\u<=0:=⟨_,rfl,by omega,by omega⟩
 obtain⟨v1,L,U⟩:∃u,1+G%5=u/\1<=u/\u<=5:=⟨_,rfl,by omega,by omega⟩
 have M:=zwz (Γ:=tab [(105,zgt)]) A C F H I J K L (zag vB vB vB vB) (zag vB vB vB vB);unfold zey;rw[M];have small : -9<=g*d/\g*d<=9:=by
  have V:=Y4 (show 0<=3-g by omega) (show 0 <= -d by omega);have X:=Y4 (show 0<=3+g by omega) (show 0 <= -d by omega);have Y:(3-g) * -d=g*d-3*d:=by grind
  have Z:(3+g) * -d = -(g*d)-3*d:=by grind
  omega
 obtain⟨o,N,bw,cr⟩:∃w,(if l*v1<=g*d then v1+10 else v1)=w/\(1<=w/\w<=15)/\0<Lb.crP (l,g) (d,w):=by
  by_cases c:l*v1<=g*d
  ·refine⟨_,if_pos c,⟨by omega,by omega⟩,?_⟩
   show 0<l*(v1+10)-g*d;have p:=Y4 (show 0<=l-1 by omega) (show 0<=v1+10 by omega);have f:(l-1)*(v1+10)=l*(v1+10)-(v1+10):=by grind
   omega
  ·refine⟨_,if_neg c,⟨by omega,by omega⟩,?_⟩
   show 0<l*v1-g*d;omega
 rw[N];have O:∀{R:List Lb.Pt}{w:W},w=.new (R.map pP)->some w=some (W.new (R.map pP)):=λe=>by rw[e]
 rcases(show r%5=2\/r%5=3\/r%5=4\/(r%5=0\/r%5=1) by omega) with c|c|c|c
 ·rw[ring_2 s c];refine⟨[(0,0),(l,g),(l+d,g+o),(d,o)],⟨Lb.tri_box cr,vC,vC,λp q=>?_⟩,rfl⟩
  simp only[Zg,Zu,or_false] at q;rcases q with rfl|rfl|rfl|rfl<;>dsimp only<;>omega
 ·rw[ring_3 s c];refine⟨[(0,0),(l,g),(d,o)],⟨Lb.tri_3 cr,vC,vC,λp q=>?_⟩,rfl⟩
  simp only[Zg,Zu,or_false] at q;rcases q with rfl|rfl|rfl<;>dsimp only<;>omega
 ·rw[ring_4 s c (zag vA vA vB vB) (zag vA vA vB vB)];refine⟨[(0,0),(l,g),(l+(l+d),g+(g+o)),(2*(l+d),2*(g+o)),(d+(l+d),o+(g+o)),(d,o)],⟨Lb.tri_6 cr,vC,vC,λp q=>?_⟩,rfl⟩
  simp only[Zg,Zu,or_false] at q;rcases q with rfl|rfl|rfl|rfl|rfl|rfl<;>dsimp only<;>omega
 ·obtain⟨R,P,e⟩:=yfu t
  refine⟨R,P,ykg s (Γ:=tab [(105,zgt)]) (z:=r%5) (φ:=zgt) rfl rfl (decide_eq_false vB) (decide_eq_false vB) (decide_eq_false vB) e⟩
abbrev zfy:Ss:=#v[.asg 9 (.call 103 #v[.bin .add (.bin .mul (.var 7) (.var 2)) (.bin .mod (.ix (.var 0) (.int 6)) (.var 3)),.var 4]),.app 6 (.tup #v[.var 9,.call 103 #v[.bin .add (.bin .mul (.var 8) (.var 2)) (.bin .mod (.ix (.var 0) (.int 7)) (.var 3)),.var 4]])]
def yco{φ:∅}(h:Γ 103=φ){d L:List D}{x y b o s e f:Int}{l m n:Option B}{X Y:D}(p:L2.atI d 6=some (.int e))(q:L2.atI d 7=some (.int f))(g:0<o)(r:Bz x b=true)(t:Bz y b=true)
 (u:φ [.int (x*b+e%o),.int s]=some (.val X))(v:φ [.int (y*b+f%o),.int s]=some (.val Y))(l1:lf X=true)(l2:lf Y=true)(w:(L.length<PySem.sizeLine)=True):
  exs Γ zfy [~~~.lst d,l,~~~.int b,~~~.int o,~~~.int s,m,some (.ow L),~~~.int x,~~~.int y,n]=some (.nx [~~~.lst d,l,~~~.int b,~~~.int o,~~~.int s,m,some (.ow (L++[.tup [X,Y]])),~~~.int x,~~~.int y,~~~X]):=by
 have A:=zaw (a:=e) g;have C:=zaw (a:=f) g;have z:(o=0)=False:=eq_false vB;unfold zfy;clear g;walk_at "evh"
def yjr{φ ψ:∅}(n:Γ 46=ψ)(l:Γ 103=φ){e d A C O:List D}{g h b o s k:Int}{m:D}{c1 p q r:Option B}(t:L2.atI e 0=some (.int g))(u:L2.atI e 5=some (.int h))
 (v:ψ [.lst e]=some (.new d))(w:lfL d=true)(z:L2.atI [D.int 1,D.int (1+h%1000000000)] (g/5%2)=some (.int b))(E:L2.atI [D.int 10,D.int 1000000000000000000] (g/10%2)=some (.int o))(F:L2.atI [D.int 1,D.int (1+h%6)] (g/20%2)=some (.int s))
 (mn:minN d=some m)(G:idxW (.lst d) m=some (.val (.int k)))(H:cutD d (some k) none=A)(I:cutD d none (some k)=C)(J:opW .add (.lst A) (.lst C)=some (.new (A++C)))(K:lfL (A++C)=true)
 (f:forN (zas (.tup [7,8])) (exs Γ zfy) (A++C) [~~~.lst e,some (.ow d),~~~.int b,~~~.int o,~~~.int s,~~~.int k,some (.ow []),none,none,none]=some (.nx [~~~.lst e,some (.ow d),~~~.int b,~~~.int o,~~~.int s,~~~.int k,some (.ow O),p,q,r])):
  run Γ zaz 10 [.lst e]=some (.new O):=by
 show run Γ #v[.asg 1 (.call 46 #v[.var 0]),.asg 2 (.ix (.lst #v[.int 1,.bin .add (.int 1) (.bin .mod (.ix (.var 0) (.int 5)) (.bin .pow (.int 10) (.int 9)))]) (.bin .mod (.bin .fdiv (.ix (.var 0) (.int 0)) (.int 5)) (.int 2))),.asg 3 (.ix (.lst #v[.int 10,.bin .pow (.int 10) (.int 18)]) (.bin .mod (.bin .fdiv (.ix (.var 0) (.int 0)) (.int 10)) (.int 2))),.asg 4 (.ix (.lst #v[.int 1,.bin .add (.int 1) (.bin .mod (.ix (.var 0) (.int 5)) (.int 6))]) (.bin .mod (.bin .fdiv (.ix (.var 0) (.int 0)) (.int 20)) (.int 2))),.asg 5 (.idx (.var 1) (.bi .min #v[.var 1])),.asg 6 (.lst .nil),.frr (.tup [7,8]) (.seq (.bin .add (.sl (.var 1) (.som (.var 5)) .non) (.sl (.var 1) .non (.som (.var 5))))) zfy,.retV 6] 10 _=_;generalize zfy=L at *;walk_at "evh"
end
open Sf Mg
theorem argB{d:Nat->Nat->Bool}{k n:Nat}(f:∀j,j<=n->j≠k->d k j=true)(g:∀j,j<=n->j≠k->d j k=false):∀m,m<=n->(m<k->PySem.argBest d m<=m)/\(k<=m->PySem.argBest d m=k)
 |0,_=>⟨λ_=>Zl _,λh=>by show 0=k;omega⟩
 |m+1,l=>by
  obtain⟨a,b⟩:=argB f g m vB
  unfold PySem.argBest;by_cases e:k<=m
  ·rw[b e,g (m+1) l vB];exact⟨λh=>by omega,λ_=>rfl⟩
  ·by_cases o:k=m+1
   ·have:=a vB
    rw[<-o,f _ vB vB];exact⟨λh=>by omega,λ_=>rfl⟩
   ·have:=a vB
    refine⟨λ_=>?_,λh=>by omega⟩
    split
    ·exact Zl _
    ·omega
def ltN_P{p q:Lb.Pt}:ltN (pP p) (pP q)=true↔Lb.ltP p q:=by
 have e:ltN (pP p) (pP q)=lt2 p.1 p.2 q.1 q.2:=rfl;rw[e];unfold lt2 fstD Lb.ltP;by_cases h:p.1=q.1
 ·by_cases d:p.2=q.2
  ·simp[h,d]
  ·simp[h,d]
 ·simp[h]
def zfw{R:List Lb.Pt}{i:Nat}(d:i<R.length):R[i]? = some (R.getD i (0,0)):=by
 rw[Z1,Zi d];rfl
def yml{R:List Lb.Pt}{k:Nat}(F:Lb.LoP R k):minN (R.map pP)=some (pP (R.getD k (0,0))):=by
 have all:((R.map pP).all λd=>(nst d).isSome)=true:=Vb.mpr λd h=>by
  obtain⟨q,_,e⟩:=Zv.mp h
  rw[<-e];rfl
 unfold minN;rw[if_pos all];have g:∀i,i<R.length->(R.map pP).getD i .non=pP (R.getD i (0,0)):=λi l=>by
  rw[Z1,Zh,zfw l];rfl
 have lk:=F.lt;have e:zum (R.map pP)=k:=by
  unfold zum;rw[Zc];refine(argB (n:=R.length-1) (λj m f=>?_) (λj m f=>?_) (R.length-1) (Zl _)).2 vB
  ·show ltN _ _=true;rw[g k lk,g j vB];exact ltN_P.mpr (F.low j _ _ f (zfw lk) (zfw vB))
  ·show ltN _ _=false;rw[g k lk,g j vB];refine U1.mpr λz=>?_;exact Lb.ltP_irr _ (Lb.ltP_trans (ltN_P.mp z) (F.low j _ _ f (zfw lk) (zfw vB)))
 rw[e,Zh,zfw lk];rfl
def pP_inj{a b:Lb.Pt}(h:eqD (pP a) (pP b)=true):a=b:=by
 unfold pP at h;simp only[eqD,eqL,Zk,beq_iff_eq,and_true] at h;exact Yh h.1 h.2
theorem dOk_P:∀R:List Lb.Pt,dOkL 49 (R.map pP)=true
 |[]=>rfl
 |p::R=>by
  show(dOk 49 (pP p) && dOkL 49 (R.map pP))=true;rw[dOk_P R];rfl
theorem ymk:∀R:List Lb.Pt,lfL (R.map pP)=true
 |[]=>rfl
 |p::R=>by
  show(lf (pP p) && lfL (R.map pP))=true;rw[ymk R];rfl
def idx_P{R:List Lb.Pt}{k:Nat}(f:R.Nodup)(d:k<R.length):idxW (.lst (R.map pP)) (pP (R.getD k (0,0)))=some (.val (.int (k:Int))):=by
 have e:R.getD k (0,0)=R[k]:=by rw[Z1,Zi d];rfl
 have h:idxD (R.map pP) (pP (R.getD k (0,0)))=some k:=by
  unfold idxD;rw[dOk_P,if_pos (show(true && dOk 50 (pP (R.getD k (0,0))))=true from rfl)];refine Ut.mpr ⟨by rw[Zc];exact d,?_,λj g=>?_⟩
  ·rw[Va,e];exact zlu 50 _ rfl
  ·rw[Va,e];intro z;have:=pP_inj z
   have:=(Kl (h₀:=by omega) (h₁:=d) f).mp this
   omega
 show(idxD _ _).map _=_;rw[h];rfl
abbrev zfo:List (Nat×(∅)):=[(46,zey),(103,zfb)]
def zft:∅:=run (tab zfo) zaz 10
section
variable{Γ:Nat->∅}
def zli(g:Γ 46=zey)(e:Γ 103=zfb):∀d w,d.length=1->zft d=some w->run Γ zaz 10 d=some w:=λd w _ h=>zcb zfo (by
 intro p f;simp only[zfo,Zg,Zu,or_false] at f;rcases f with rfl|rfl<;>assumption) vA d w h
end
structure Sh5(l:List (Rat×Rat)):Prop where
 shp:IsShp l
 few:l.length<=30
 ov:∃s:Int,s≠0/\s.natAbs<2^3/\∀q∈l,Ov s 62 q
 sy:SyL 62 3 l
def zvu{a b:D}{i:Int}(h:i=0\/i=1):L2.atI [a,b] i=some (if i=0 then a else b):=by
 rcases h with h|h<;>subst h<;>rfl
def ziv(x:Rat):lf (fr x)=true:=rfl
def zke{hs:List Int}(U:8<=hs.length):∃l,Sh5 l/\zft [.lst (hs.map D.int)]=some (.new (l.map stD)):=by
 have m:∀(j:Nat) (h:j<8),L2.atI (hs.map D.int) (j:Int)=some (.int (hs[j]'vB)):=λj h=>zbx vB
 obtain⟨u,V⟩:∃h,L2.atI (hs.map D.int) 0=some (.int h):=⟨_,m 0 vA⟩
 obtain⟨L,W⟩:∃h,L2.atI (hs.map D.int) 5=some (.int h):=⟨_,m 5 vA⟩
 obtain⟨r,X⟩:∃h,L2.atI (hs.map D.int) 6=some (.int h):=⟨_,m 6 vA⟩
 obtain⟨v,Y⟩:∃h,L2.atI (hs.map D.int) 7=some (.int h):=⟨_,m 7 vA⟩
 obtain⟨R,t,Z⟩:=ydc U
 have M:=t.tri.nodup t.three;have r3:=t.three;have rf:=t.few;obtain⟨k,B⟩:=Lb.lo_ex M vB
 obtain⟨b,i1,b1,b2⟩:∃b:Int,L2.atI [D.int 1,D.int (1+L%1000000000)] (u/5%2)=some (.int b)/\1<=b/\b<=1000000000:=by
  rw[zvu vB];by_cases z:u/5%2=0
  ·exact⟨1,by rw[if_pos z],by decide,by decide⟩
  ·exact⟨_,by rw[if_neg z],by omega,by omega⟩
 obtain⟨o,i2,o1,o2⟩:∃b:Int,L2.atI [D.int 10,D.int 1000000000000000000] (u/10%2)=some (.int b)/\1<=b/\b<=1000000000000000000:=by
  rw[zvu vB];by_cases z:u/10%2=0
  ·exact⟨10,by rw[if_pos z],by decide,by decide⟩
  ·exact⟨_,by rw[if_neg z],by decide,by decide⟩
 obtain⟨s,i3,s1,s2⟩:∃b:Int,L2.atI [D.int 1,D.int (1+L%6)] (u/20%2)=some (.int b)/\1<=b/\b<=6:=by
  rw[zvu vB];by_cases z:u/20%2=0
  ·exact⟨1,by rw[if_pos z],by decide,by decide⟩
  ·exact⟨_,by rw[if_neg z],by omega,by omega⟩
 have f6:0<=r%o/\r%o<o:=⟨W9 _ vB,Ks _ vB⟩;have f7:0<=v%o/\v%o<o:=⟨W9 _ vB,Ks _ vB⟩;have g:s.natAbs<2^9000:=Zf (show s.natAbs<2^3 by omega) (Bx vA);have sz:(1000:Nat)<=PySem.sizeLine:=by decide
 refine⟨(rot R k).map (Lb.spot2 b (r%o) (v%o) s),?_,?_⟩
 ·have key:∀q∈(rot R k).map (Lb.spot2 b (r%o) (v%o) s),∃x y:Int,q.1=Rat.divInt x s/\q.2=Rat.divInt y s/\x.natAbs<2^62/\y.natAbs<2^62:=λq w=>by
   obtain⟨p,C,e⟩:=Zv.mp w
   have n:=t.bd p (rot_mem.mp C);have N:∀x:Int,-4000<=x->x<=4000 -> -4000000000000<=x*b/\x*b<=4000000000000:=λx E F=>by
    have g1:=Qt F (show 0<=b by omega);have g2:=Qt E (show 0<=b by omega);omega
   have k1:=N p.1 n.1.1 n.1.2;have k2:=N p.2 n.2.1 n.2.2;have A:(2:Nat)^62=4611686018427387904:=by decide
   rw[<-e];exact⟨p.1*b+r%o,p.2*b+v%o,rfl,rfl,by rw[A];omega,by rw[A];omega⟩
  have G:s.natAbs<2^3:=by omega
  refine⟨Lb.shp2 t.tri r3 B b1 s1,by rw[Zc,zfp];exact rf,⟨s,by omega,G,λq w=>⟨key q w⟩⟩,λq w=>?_⟩
  obtain⟨x,y,e1,e2,E,F⟩:=key q w
  exact⟨by rw[e1];exact zia vB E G,by rw[e2];exact zia vB F G⟩
 ·have O:k<=(R.map pP).length:=by rw[Zc];have:=B.lt;omega
  have P:(R.map pP).drop k++(R.map pP).take k=(rot R k).map pP:=by rw[zwx];rfl
  obtain⟨a1,f,H,J,K,rfl⟩:=zqg (bt:=zas (.tup [7,8])) (fb:=exs (tab zfo) zfy) (I:=λj Q=>∃H J K,Q=[~~~.lst (hs.map D.int),some (.ow (R.map pP)),~~~.int b,~~~.int o,~~~.int s,~~~.int (k:Int),some (.ow (((rot R k).take j).map λp=>stD (Lb.spot2 b (r%o) (v%o) s p))),H,J,K]) ((rot R k).map pP) 0 [~~~.lst (hs.map D.int),some (.ow (R.map pP)),~~~.int b,~~~.int o,~~~.int s,~~~.int (k:Int),some (.ow []),none,none,none] ⟨none,none,none,rfl⟩ λj d Q S hi=>by
   obtain⟨H,J,K,rfl⟩:=hi
   rw[Zh] at S;obtain⟨p,C,e⟩:=Zb.mp S
   subst e;have n:=t.bd p (rot_mem.mp (Yr C));have T:∀x:Int,-4000<=x->x<=4000->Bz x b=true:=λx E F=>zag vB vB vB vB
   refine⟨_,_,rfl,yco (Γ:=tab zfo) (φ:=zfb) (x:=p.1) (y:=p.2) rfl X Y vB (T p.1 n.1.1 n.1.2) (T p.2 n.2.1 n.2.2) (zis vB g) (zis vB g) (ziv _) (ziv _) (eq_true ?_),~~~.int p.1,~~~.int p.2,~~~fr (Rat.divInt (p.1*b+r%o) s),?_⟩
   ·rw[Zc,Ww];have:(rot R k).length=R.length:=zfp
    omega
   ·rw[Yz,List.take_succ,C,Y3];rfl
  rw[Yz,Zc,Bg] at f;unfold zft;rw[Ye];refine yjr (Γ:=tab zfo) (φ:=zfb) (ψ:=zey) (c1:=none) rfl rfl V W Z (ymk R) i1 i2 i3 (yml B) (idx_P M B.lt) (zlw O) (cutTo O) (zqz (by rw[Ys,Ww,Zc];omega)) (by rw[P];exact ymk _) (by rw[P];exact f)
open Sf Mg
section
variable{Γ:Nat->∅}
end
open Sf Mg
section
variable{Γ:Nat->∅}
def ygy{a b:Rat×Rat}(h:eqD (stD a) (stD b)=true):a=b:=by
 unfold stD fr at h;simp only[eqD,eqL,Zk,beq_iff_eq,and_true] at h;exact Yh (Rat.ext h.1.1 (by have:=h.1.2;omega)) (Rat.ext h.2.1 (by have:=h.2.2;omega))
theorem yhz:∀{l r:List (Rat×Rat)},eqL (l.map stD) (r.map stD)=true->l=r
 |[],[],_=>rfl
 |[],_::_,h=>by simp[eqL] at h
 |_::_,[],h=>by simp[eqL] at h
 |a::l,b::r,h=>by
  simp only[Zx,eqL,Zk] at h;rw[ygy h.1,yhz h.2]
def yic(l r:List (Rat×Rat)):cmpD .eq (.lst (l.map stD)) (.lst (r.map stD))=some (decide (l=r)):=by
 show(if (dOkL 49 (l.map stD) && dOkL 49 (r.map stD))=true then some (eqL (l.map stD) (r.map stD)) else none)=_;rw[zoi,zoi,if_pos (show(true && true)=true from rfl)];congr 1
 by_cases e:l=r
 ·subst e;rw[eqL_self 49 _ (zoi _),decide_eq_true rfl]
 ·rw[decide_eq_false e];exact U1.mpr λz=>e (yhz z)
def zyd{x:Rat}(h:0<x):0<x.num:=by
 refine cast_pos.mp ?_;rw[zse];exact Zq h (cast_pos.mpr (den_pos _))
end
open Sf
def bD(a:PySem.Addr)(p:Int)(h:H3)(x:Rat)(d:D):D:=.obj a [.int p,hD h,fr x,d]
section
variable{Γ:Nat->∅}
def zco:∅:=run (tab []) zfl 2
def ok_trio_at:∀d w,d.length=2->zco d=some w->run Γ zfl 2 d=some w:=λd w _ h=>zcb [] (λp e=>by cases e) vA d w h
def ybr{L:List D}{k:Int}{x y z:D}(d:L.length≠0)(e:L2.atI L (k-1)=some x)(f:L2.atI L k=some y)(g:L2.atI L ((k+1).fmod L.length)=some z):zco [.lst L,.int k]=some (.val (.tup [x,y,z])):=by
 unfold zco zfl;generalize tab []=Γ;have h:((L.length:Nat):Int)≠0:=by omega
 walk_at "evh"
def zbi:∅:=run (tab [(81,zbm)]) zci 4
def ok_weights_of(e:Γ 81=zbm):∀d w,d.length=1->zbi d=some w->run Γ zci 4 d=some w:=λd w _ h=>zcb [(81,zbm)] (λp f=>by simp only[Zg,Zu,or_false] at f;subst f;exact e) vA d w h
def zhq{a0 a1 a2:PySem.Addr}{p0 p1 p2:Int}{d e f:H3}{x0 x1 x2:Rat}{c0 c1 c2:D}(h:HB 3000 d)(l:HB 3000 e)(m:HB 3000 f):
  zbi [.tup [bD a0 p0 d x0 c0,bD a1 p1 e x1 c1,bD a2 p2 f x2 c2]]=some (.new [.int (crI e f),.int (crI f d),.int (crI d e)]):=by
 unfold zbi zci bD;generalize g:tab [(81,zbm)]=Γ;have n:Γ 81=zbm:=by rw[<-g];rfl
 have o:=zdk l m;have p:=zdk m h;have q:=zdk h l;have r:lf (hD d)=true:=rfl;have l1:lf (hD e)=true:=rfl;have l2:lf (hD f)=true:=rfl;clear g h l m;walk_at "evh"
def znq:∅:=run (tab [(92,zco),(93,zbi)]) zdw 2
def ok_ends_all(f:Γ 92=zco)(g:Γ 93=zbi):∀d w,d.length=2->znq d=some w->run Γ zdw 2 d=some w:=λd w _ h=>zcb [(92,zco),(93,zbi)] (λp e=>by
 simp only[Zg,Zu,or_false] at e;rcases e with rfl|rfl<;>assumption) vA d w h
def yff{L:List D}{k:Int}{T:D}{u v w:Int}(g:zco [.lst L,.int k]=some (.val T))(h:zbi [T]=some (.new [.int u,.int v,.int w])):znq [.lst L,.int k]=some (.val (.bl (decide (0<=v)))):=by
 unfold znq zdw;generalize d:tab [(92,zco),(93,zbi)]=Γ;have e:Γ 92=zco:=by rw[<-d];rfl
 have f:Γ 93=zbi:=by rw[<-d];rfl
 clear d;walk_at "evh"
end
open Sf
section
variable{Γ:Nat->∅}
def zit:∅:=run (tab [(10,zav),(11,zae)]) zfn 2
def ok_edge_by(f:Γ 10=zav)(g:Γ 11=zae):∀d w,d.length=2->zit d=some w->run Γ zfn 2 d=some w:=λd w _ h=>zcb [(10,zav),(11,zae)] (λp e=>by
 simp only[Zg,Zu,or_false] at e;rcases e with rfl|rfl<;>assumption) vA d w h
def zsw{a:PySem.Addr}{p:Int}{h:H3}{x t:Rat}{cl:D}{m n q:Nat}(sc:Sz m (h.2.2:Rat))(e:Sz n t)(f:Sz q x)(l:m<=4400)(o:n<=4400)(r:q<=4400)(g:Sz 4400 (t*x)):
  zit [bD a p h x cl,fr t]=some (.val (fr ((h.2.2:Rat)-t*x))):=by
 have v:zae [fr t,fr x]=some (.val (fr (t*x))):=zal (zaa e f o r);have w:zav [.tup [.int h.2.2,.int 1],fr (t*x)]=some (.val (fr ((h.2.2:Rat)-t*x))):=zal (x:=(h.2.2:Rat)) (zaa sc g l vA);unfold zit zfn bD;generalize d:tab [(10,zav),(11,zae)]=Γ;have s:Γ 10=zav:=by rw[<-d];rfl
 have u:Γ 11=zae:=by rw[<-d];rfl
 have z:hD h=.tup [.int h.1,.int h.2.1,.int h.2.2]:=rfl;generalize fr (t*x)=X at *;generalize fr ((h.2.2:Rat)-t*x)=Y at *;generalize fr t=Z at *;generalize fr x=A at *;clear d sc e f g;walk_at "evh"
def zcf:∅:=run (tab [(10,zav),(11,zae),(20,zlk),(81,zbm),(99,zit)]) zdm 8
def ok_meeting(f:Γ 10=zav)(g:Γ 11=zae)(l:Γ 20=zlk)(m:Γ 81=zbm)(n:Γ 99=zit):∀d w,d.length=3->zcf d=some w->run Γ zdm 8 d=some w:=λd w _ h=>zcb [(10,zav),(11,zae),(20,zlk),(81,zbm),(99,zit)] (λp e=>by
 simp only[Zg,Zu,or_false] at e;rcases e with rfl|rfl|rfl|rfl|rfl<;>assumption) vA d w h
def zpz{h10:Γ 10=zav}{h11:Γ 11=zae}{h20:Γ 20=zlk}{h81:Γ 81=zbm}{h99:Γ 99=zit}{a g:PySem.Addr}{p l:Int}{h d:H3}{x f:Rat}{m e T E1 E2 n o q s X Y t u:D}{r:Int}
 (l1:lf E1=true)(l2:lf E2=true)(z:lf X=true)(A:lf Y=true)
 (B:zit [bD a p h x m,T]=some (.val E1))(C:zit [bD g l d f e,T]=some (.val E2))(E:zbm [hD h,hD d]=some (.val (.int r)))
 (F:zae [.tup [.int d.2.1,.int 1],E1]=some (.val n))(G:zae [.tup [.int h.2.1,.int 1],E2]=some (.val o))(H:zav [n,o]=some (.val X))
 (I:zae [.tup [.int h.1,.int 1],E2]=some (.val q))(J:zae [.tup [.int d.1,.int 1],E1]=some (.val s))(K:zav [q,s]=some (.val Y))
 (v:zlk [X,.tup [.int r,.int 1]]=some (.val t))(w:zlk [Y,.tup [.int r,.int 1]]=some (.val u)):
  run Γ zdm 8 [bD a p h x m,bD g l d f e,T]=some (.val (.tup [t,u])):=by
 unfold bD hD at *;unfold zdm;generalize fr x=Z at *;generalize fr f=L at *;walk_at "evh"
def zbb:∅:=run (tab []) zgb 2
def ok_belowR:∀d w,d.length=2->zbb d=some w->run Γ zgb 2 d=some w:=λd w _ h=>zcb [] (λp e=>by cases e) vA d w h
def zkl{a b c d:Int}(e:Bz a d=true)(f:Bz c b=true):zbb [.tup [.int a,.int b],.tup [.int c,.int d]]=some (.val (.bl (decide (a*d<c*b)))):=by
 unfold zbb zgb;generalize tab []=Γ;walk_at "evh"
end
open Sf
section
variable{Γ:Nat->∅}
def clD:Option (Int×Int)->D
 |none=>.non
 |some p=>.tup [.int p.1,.int p.2]
def fD:Option Nat->D
 |none=>.non
 |some j=>.int (j:Int)
def Best(d:Nat->Option (Int×Int))(k:Nat)(f:Option Nat):Prop:=match f with
 |none=>∀i,i<k->d i=none
 |some j=>j<k/\∃p,d j=some p/\∀i q,i<k->d i=some q->p.1*q.2<=q.1*p.2
def zbr:∅:=run (tab [(21,zbb)]) zdx 4
def ok_earliest(e:Γ 21=zbb):∀d w,d.length=1->zbr d=some w->run Γ zdx 4 d=some w:=λd w _ h=>zcb [(21,zbb)] (λp f=>by
 simp only[Zg,Zu,or_false] at f;subst f;exact e) vA d w h
abbrev zmf:Ss:=#v[.asg 3 (.fld (.ix (.var 0) (.var 2)) 3),.iff (.and (.cmp .notN (.var 3) .non) (.or (.cmp .isN (.var 1) .non) (.call 21 #v[.var 3,.fld (.ix (.var 0) (.var 1)) 3]))) #v[.asg 1 (.var 2)] .nil]
def yfh{L:List D}{j:Nat}{a:PySem.Addr}{p:Int}{s l f:D}{d:Option B}(e:lf f=true)(h:L2.atI L (j:Int)=some (.obj a [.int p,s,l,.non])):
  exs Γ zmf [~~~.lst L,~~~f,~~~.int (j:Int),d]=some (.nx [~~~.lst L,~~~f,~~~.int (j:Int),~~~.non]):=by
 walk_at "evh"
def zzq{L:List D}{j:Nat}{a:PySem.Addr}{p t b:Int}{s l:D}{d:Option B}(h:L2.atI L (j:Int)=some (.obj a [.int p,s,l,.tup [.int t,.int b]])):
  exs Γ zmf [~~~.lst L,~~~.non,~~~.int (j:Int),d]=some (.nx [~~~.lst L,~~~.int (j:Int),~~~.int (j:Int),~~~.tup [.int t,.int b]]):=by
 walk_at "evh"
def yfi(f:Γ 21=zbb){L:List D}{j i:Nat}{a g:PySem.Addr}{p m t b d e:Int}{s l n o:D}{u:Option B}{r:Bool}(h:L2.atI L (j:Int)=some (.obj a [.int p,s,l,.tup [.int t,.int b]]))(v:L2.atI L (i:Int)=some (.obj g [.int m,n,o,.tup [.int d,.int e]]))
 (q:zbb [.tup [.int t,.int b],.tup [.int d,.int e]]=some (.val (.bl r))):
  exs Γ zmf [~~~.lst L,~~~.int (i:Int),~~~.int (j:Int),u]=some (.nx [~~~.lst L,~~~(.int (if r=true then(j:Int) else(i:Int))),~~~.int (j:Int),~~~.tup [.int t,.int b]]):=by
 cases r
 ·walk_at "evh"
 ·walk_at "evh"
def yau{f:Nat->Option (Int×Int)}{k i:Nat}{p q:Int×Int}(l:∀i q,f i=some q->0<q.2)(h:Best f k (some i))(n:f i=some p)(g:f k=some q):Best f (k+1) (some (if q.1*p.2<p.1*q.2 then k else i)):=by
 obtain⟨o,A,e,m⟩:=h
 rw[n] at e;cases e;have s:=l _ _ n;have t:=l _ _ g;by_cases z:q.1*p.2<p.1*q.2
 ·rw[if_pos z];refine⟨Wx _,q,g,λj r u d=>?_⟩
  rcases Yf j k with c|c
  ·have a:=m j r c d;have v:=l _ _ d;have B:q.1*p.2*r.2<=p.1*q.2*r.2:=Qt (Qe z) (Qe v);have C:p.1*r.2*q.2<=r.1*p.2*q.2:=Qt a (Qe t);have w:(q.1*r.2)*p.2<=(r.1*q.2)*p.2:=by grind
   exact Int.le_of_mul_le_mul_right w s
  ·have:j=k:=by omega
   subst this;rw[g] at d;cases d;exact G5 _
 ·rw[if_neg z];refine⟨by omega,p,n,λj r u d=>?_⟩
  rcases Yf j k with c|c
  ·exact m j r c d
  ·have:j=k:=by omega
   subst this;rw[g] at d;cases d;omega
end
open Sf
section
variable{Γ:Nat->∅}
def ziy{g:D->RhoS->Option RhoS}{h:RhoS->Option Out}{d:D}{l:List D}{m e f:RhoS}(n:g d m=some e)(o:h e=some (.nx f)):forN g h (d::l) m=forN g h l f:=by
 conv=>lhs;unfold forN
 rw[n];simp only;rw[o]
abbrev yih:Ss:=#v[.asg 1 (.bin .mul (.var 1) (.ix (.fld (.var 2) 2) (.int 1)))]
abbrev yig:Ss:=#v[.asg 3 (.bin .sub (.var 3) (.bin .mul (.bin .mul (.var 5) (.ix (.fld (.var 2) 1) (.int 2))) (.var 1))),.asg 4 (.bin .sub (.var 4) (.bin .mul (.bin .mul (.var 5) (.ix (.fld (.var 2) 2) (.int 0))) (.bin .fdiv (.var 1) (.ix (.fld (.var 2) 2) (.int 1)))))]
def zqq{a:PySem.Addr}{T p s e:D}{c n d:Int}{f g l m:Option B}(h:Bz c d=true):
  exs Γ yih [~~~T,~~~.int c,~~~.obj a [p,s,.tup [.int n,.int d],e],f,g,l,m]=some (.nx [~~~T,~~~.int (c*d),~~~.obj a [p,s,.tup [.int n,.int d],e],f,g,l,m]):=by
 walk_at "evh"
def zqp{a:PySem.Addr}{T p g:D}{c n d t b w h l f e:Int}{m:Option B}(o:Bz w f=true)(q:Bz (w*f) c=true)(r:Bz w n=true)(s:zbu d=true)(u:Bz (w*n) e=true)(v:c.fdiv d=e):
  exs Γ yig [~~~T,~~~.int c,~~~.obj a [p,.tup [.int h,.int l,.int f],.tup [.int n,.int d],g],~~~.int t,~~~.int b,~~~.int w,m] =
   some (.nx [~~~T,~~~.int c,~~~.obj a [p,.tup [.int h,.int l,.int f],.tup [.int n,.int d],g],~~~.int (t-w*f*c),~~~.int (b-w*n*e),~~~.int w,m]):=by
 walk_at "evh"
def o4(a:PySem.Addr)(p:D)(e f g n d:Int)(h:D):D:=.obj a [p,.tup [.int e,.int f,.int g],.tup [.int n,.int d],h]
def yjw{a0 a1 a2:PySem.Addr}{p0 p1 p2 cl0 cl1 cl2:D}{s0 t0 u0 s1 t1 u1 s2 t2 u2 n0 n1 n2 d0 d1 d2 w0 w1 w2 c e0 e1 e2:Int}
 (m:Γ 93 [.tup [o4 a0 p0 s0 t0 u0 n0 d0 cl0,o4 a1 p1 s1 t1 u1 n1 d1 cl1,o4 a2 p2 s2 t2 u2 n2 d2 cl2]]=some (.new [.int w0,.int w1,.int w2]))
 (n:Bz 1 d0=true)(o:Bz (1*d0) d1=true)(p:Bz (1*d0*d1) d2=true)(q:1*d0*d1*d2=c)
 (r:Bz w0 u0=true)(s:Bz (w0*u0) c=true)(t:Bz w0 n0=true)(u:zbu d0=true)(v:Bz (w0*n0) e0=true)(w:c.fdiv d0=e0)
 (z:Bz w1 u1=true)(A:Bz (w1*u1) c=true)(B:Bz w1 n1=true)(C:zbu d1=true)(E:Bz (w1*n1) e1=true)(F:c.fdiv d1=e1)
 (G:Bz w2 u2=true)(H:Bz (w2*u2) c=true)(I:Bz w2 n2=true)(J:zbu d2=true)(K:Bz (w2*n2) e2=true)(L:c.fdiv d2=e2):
  exs Γ o_set_closing.1 [~~~.tup [o4 a0 p0 s0 t0 u0 n0 d0 cl0,o4 a1 p1 s1 t1 u1 n1 d1 cl1,o4 a2 p2 s2 t2 u2 n2 d2 cl2],none,none,none,none,none,none] =
   some (.nx [~~~.tup [o4 a0 p0 s0 t0 u0 n0 d0 cl0,o4 a1 p1 s1 t1 u1 n1 d1 cl1,o4 a2 p2 s2 t2 u2 n2 d2 cl2],~~~.int c,~~~o4 a2 p2 s2 t2 u2 n2 d2 cl2,~~~.int (0-w0*u0*c-w1*u1*c-w2*u2*c),
    ~~~.int (0-w0*n0*e0-w1*n1*e1-w2*n2*e2),~~~.int w2,~~~o4 a1 p1 s1 t1 u1 n1 d1 cl1]):=by
 have Q:∃x,o4 a0 p0 s0 t0 u0 n0 d0 cl0=x/\x=o4 a0 p0 s0 t0 u0 n0 d0 cl0:=⟨_,rfl,rfl⟩;obtain⟨f,M,h⟩:=Q
 have R:∃x,o4 a1 p1 s1 t1 u1 n1 d1 cl1=x/\x=o4 a1 p1 s1 t1 u1 n1 d1 cl1:=⟨_,rfl,rfl⟩;obtain⟨e,N,g⟩:=R
 have S:∃x,o4 a2 p2 s2 t2 u2 n2 d2 cl2=x/\x=o4 a2 p2 s2 t2 u2 n2 d2 cl2:=⟨_,rfl,rfl⟩;obtain⟨d,O,l⟩:=S
 rw[M,N,O] at m |-;have V:forN (zas (.name 2)) (exs Γ yih) [f,e,d] [~~~.tup [f,e,d],~~~.int 1,none,none,none,none,none]=some (.nx [~~~.tup [f,e,d],~~~.int c,~~~d,none,none,none,none]):=by
  rw[h,g,l,<-q];rw[ziy rfl (zqq n),ziy rfl (zqq o),ziy rfl (zqq p)];rfl
 have T:forN (zas (.tup [5,2])) (exs Γ yig) [.tup [.int w0,f],.tup [.int w1,e],.tup [.int w2,d]] [~~~.tup [f,e,d],~~~.int c,~~~d,~~~.int 0,~~~.int 0,none,none] =
   some (.nx [~~~.tup [f,e,d],~~~.int c,~~~d,~~~.int (0-w0*u0*c-w1*u1*c-w2*u2*c),~~~.int (0-w0*n0*e0-w1*n1*e1-w2*n2*e2),~~~.int w2,none]):=by
  rw[h,g,l];rw[ziy rfl (zqp r s t u v w),ziy rfl (zqp z A B C E F),ziy rfl (zqp G H I J K L)];rfl
 have W:zipD [.int w0,.int w1,.int w2] [f,e,d]=[.tup [.int w0,f],.tup [.int w1,e],.tup [.int w2,d]]:=rfl;have X:lf e=false:=by rw[g];rfl
 have Y:frz [~~~.tup [f,e,d],~~~.int c,~~~d,~~~.int 0,~~~.int 0,none,none]=[~~~.tup [f,e,d],~~~.int c,~~~d,~~~.int 0,~~~.int 0,none,none]:=rfl;unfold o_set_closing;dsimp only;generalize (0-w0*u0*c-w1*u1*c-w2*u2*c)=TT at *;generalize (0-w0*n0*e0-w1*n1*e1-w2*n2*e2)=P at *;have U:frz [~~~.tup [f,e,d],~~~.int c,~~~d,~~~.int TT,~~~.int P,~~~.int w2,none]=[~~~.tup [f,e,d],~~~.int c,~~~d,~~~.int TT,~~~.int P,~~~.int w2,none]:=rfl;clear M h N g O l n o p q r s t u v w z A B C E F G H I J K L;walk_at "evh"
def yjv{f g l m n:Option B}{t b:Int}:ev Γ o_set_closing.2.1 (view [f,g,l,~~~.int t,~~~.int b,m,n])=some (.val (clD (if 0<b then some (t,b) else none))):=by
 unfold o_set_closing;dsimp only;by_cases h:0<b
 ·have e:decide (0<b)=true:=decide_eq_true h;have d:clD (if 0<b then some (t,b) else none)=.tup [.int t,.int b]:=by rw[if_pos h];rfl
  rw[d];walk_at "evh"
 ·have e:decide (0<b)=false:=decide_eq_false h;have d:clD (if 0<b then some (t,b) else none)=.non:=by rw[if_neg h];rfl
  rw[d];walk_at "evh"
end
open Sf
section
variable{Γ:Nat->∅}
def kk1(p w g:Int):List (List Int):=if w=0 then [] else [[p,w.fdiv g]]
def shK(d e f h l m g:Int):List (List Int):=kk1 d h g++(kk1 e l g++(kk1 f m g++[]))
end
open Mg Fi
def wy(h:H3):V:=((h.2.1:Rat),-(h.1:Rat))
def zdy{h k:H3}:xr (wy h) (wy k)=((crI h k:Int):Rat):=by
 unfold xr wy crI;rw[W8,Z4,Z4];grind
def zmn{h:H3}{v:V}:xr (wy h) v=(h.1:Rat)*v.1+(h.2.1:Rat)*v.2:=by unfold xr wy;grind
def top3(d e f:H3)(g h l:Int):Int:=0-crI e f*d.2.2*(1*g*h*l)-crI f d*e.2.2*(1*g*h*l)-crI d e*f.2.2*(1*g*h*l)
def bot3(d e f:H3)(m n o g h l:Int):Int:=0-crI e f*m*(h*l)-crI f d*n*(g*l)-crI d e*o*(g*h)
def clo3(g h l:H3)(d e f:Rat):Option (Int×Int):=
 if 0<bot3 g h l d.num e.num f.num d.den e.den f.den then some (top3 g h l d.den e.den f.den,bot3 g h l d.num e.num f.num d.den e.den f.den) else none
def znn(x:Rat):((x.num:Int):Rat)=x*((x.den:Int):Rat):=by
 have h:((x.den:Int):Rat)≠0:=λz=>x.den_nz (by
  have:=W3.mp z
  omega)
 have e:x=(x.num:Rat)/((x.den:Int):Rat):=by
  conv=>lhs;rw[<-V3 x,Rat.mkRat_eq_div]
  rw[Gz]
 have d:x*((x.den:Int):Rat)=(x.num:Rat)/((x.den:Int):Rat)*((x.den:Int):Rat):=by
  conv=>lhs;lhs;rw[e]
 rw[d,G9 h]
def zgf(x:Rat):(0:Rat)<((x.den:Int):Rat):=by
 rw[show(0:Rat)=((0:Int):Rat) from rfl,Z6];exact Vt.mpr x.den_pos
def yjb{d e f:H3}{g h l:Int}:((top3 d e f g h l:Int):Rat)=((g:Rat)*h*l)*(- gg (wy d) (wy e) (wy f) (d.2.2:Rat) (e.2.2:Rat) (f.2.2:Rat)):=by
 unfold top3 gg;rw[zdy,zdy,zdy];simp only[W8,Z4];rw[show((0:Int):Rat)=0 from rfl,show((1:Int):Rat)=1 from rfl];grind
def yan{h0 h1 h2:H3}{x0 x1 x2:Rat}:((bot3 h0 h1 h2 x0.num x1.num x2.num x0.den x1.den x2.den:Int):Rat)=(((x0.den:Int):Rat)*((x1.den:Int):Rat)*((x2.den:Int):Rat))*(- gg (wy h0) (wy h1) (wy h2) x0 x1 x2):=by
 unfold bot3 gg;rw[zdy,zdy,zdy];simp only[W8,Z4];rw[show((0:Int):Rat)=0 from rfl,znn x0,znn x1,znn x2];grind
def ztd{l m n:H3}{d f g:Rat}(h:0 < - gg (wy l) (wy m) (wy n) d f g):∃p,clo3 l m n d f g=some p:=by
 have e:=yan (h0:=l) (h1:=m) (h2:=n) (x0:=d) (x1:=f) (x2:=g);have c:=Zq (Zq (zgf d) (zgf f)) (zgf g);have:0<bot3 l m n d.num f.num g.num d.den f.den g.den:=by
  rw[<-Z6,e];exact Zq c h
 unfold clo3;rw[if_pos this];exact⟨_,rfl⟩
def zfh{l m n:H3}{d f g:Rat}{p:Int×Int}(h:clo3 l m n d f g=some p):0<p.2/\0 < - gg (wy l) (wy m) (wy n) d f g /\
  (p.1:Rat)*(- gg (wy l) (wy m) (wy n) d f g)=(p.2:Rat)*(- gg (wy l) (wy m) (wy n) (l.2.2:Rat) (m.2.2:Rat) (n.2.2:Rat)):=by
 unfold clo3 at h;split at h
 ·next z=>
  cases h;have e:=yan (h0:=l) (h1:=m) (h2:=n) (x0:=d) (x1:=f) (x2:=g);have c:=Zq (Zq (zgf d) (zgf f)) (zgf g);refine⟨z,?_,?_⟩
  ·have o:(0:Rat)<((bot3 l m n d.num f.num g.num d.den f.den g.den:Int):Rat):=by
    rw[show(0:Rat)=((0:Int):Rat) from rfl,Z6];exact z
   rw[e] at o;generalize ((d.den:Int):Rat)*((f.den:Int):Rat)*((g.den:Int):Rat)=A at *;generalize-gg (wy l) (wy m) (wy n) d f g=B at *
   by_cases q:0<B
   ·exact q
   ·have:=Zn (Zy c) (show 0 <= -B by grind)
    grind
  ·show((top3 l m n d.den f.den g.den:Int):Rat)*_=((bot3 l m n d.num f.num g.num d.den f.den g.den:Int):Rat)*_;rw[e,yjb];grind
 ·cases h
def clJ(h:Nat->H3)(x:Nat->Rat)(n:Nat)(J:Nat->Nat)(i:Nat):Option (Int×Int):=clo3 (h (J (pv n i))) (h (J i)) (h (J (nx n i))) (x (J (pv n i))) (x (J i)) (x (J (nx n i)))
def ear(d:Nat->Option (Int×Int)):Nat->Option Nat
 |0=>none
 |k+1=>match d k with
  |none=>ear d k
  |some q=>match ear d k with
   |none=>some k
   |some i=>match d i with
    |none=>some i
    |some p=>some (if q.1*p.2<p.1*q.2 then k else i)
def yav{d:Nat->Option (Int×Int)}{k:Nat}{f:Option Nat}(h:Best d k f)(q:d k=none):Best d (k+1) f:=by
 cases f with
 |none=>
  intro i n;rcases Yf i k with c|c
  ·exact h i c
  ·have:i=k:=by omega
   subst this;exact q
 |some i=>
  obtain⟨o,g,l,m⟩:=h
  refine⟨by omega,g,l,λj r p e=>?_⟩
  rcases Yf j k with c|c
  ·exact m j r c e
  ·have:j=k:=by omega
   subst this;rw[q] at e;cases e
def zux{f:Nat->Option (Int×Int)}{k:Nat}{q:Int×Int}(h:Best f k none)(e:f k=some q):Best f (k+1) (some k):=
 ⟨Wx _,q,e,λi r g d=>by
  rcases Yf i k with c|c
  ·rw[h i c] at d;cases d
  ·have:i=k:=by omega
   subst this;rw[e] at d;cases d;exact G5 _⟩
theorem zmg{d:Nat->Option (Int×Int)}(g:∀i q,d i=some q->0<q.2):∀k,Best d k (ear d k)
 |0=>λi m=>by omega
 |k+1=>by
  have f:=zmg g k;unfold ear;cases e:d k with
  |none=>exact yav f e
  |some q=>
   simp only
   cases h:ear d k with
   |none=>rw[h] at f;exact zux f e
   |some i=>
    rw[h] at f;obtain⟨p,l⟩:∃p,d i=some p:=by obtain⟨_,p,z,_⟩:=f;exact⟨p,z⟩
    simp only[l];exact yau g f l e
def fac(p:Int×Int):Rat:=(p.1:Rat)*(p.2:Rat)⁻¹
def zqi{p:Int×Int}(h:0<p.2):fac p*(p.2:Rat)=(p.1:Rat):=by
 have:(p.2:Rat)≠0:=λz=>by
  have:=W3.mp z
  omega
 unfold fac;rw[K4,U3 _ (p.2:Rat),Qd _ this];grind
section
variable{h:Nat->H3}{x:Nat->Rat}{N:Nat}
structure Lst(h:Nat->H3)(x:Nat->Rat)(N:Nat)(n:Nat)(J:Nat->Nat)(t:Rat):Prop where
 ok:Ok (λi=>wy (h (J i))) (λi=>((h (J i)).2.2:Rat)) (λi=>x (J i)) n t
 mono:∀i k,i<k->k<n->J i<J k
 lt:∀i,i<n->J i<N
 span:Span (λi=>wy (h (J i))) n
 off:Off (λi=>wy (h (J i))) (λi=>((h (J i)).2.2:Rat)) n
 back:∀s y,t<=s->(∀i,i<n->((h (J i)).2.2:Rat)-s*x (J i)<=xr (wy (h (J i))) y)->∀j,j<N->((h j).2.2:Rat)-s*x j<=xr (wy (h j)) y
structure Nxt(h:Nat->H3)(x:Nat->Rat)(N n:Nat)(J:Nat->Nat)(t:Rat)(k:Nat)(p:Int×Int):Prop where
 ear:ear (clJ h x n J) n=some k
 lt:k<n
 cl:clJ h x n J k=some p
 pos:0<p.2
 bot:0<tp (λi=>wy (h (J i))) (λi=>x (J i)) n k
 top:fac p*tp (λi=>wy (h (J i))) (λi=>x (J i)) n k=tp (λi=>wy (h (J i))) (λi=>((h (J i)).2.2:Rat)) n k
 le:t<=fac p
 ok:Ok (λi=>wy (h (J i))) (λi=>((h (J i)).2.2:Rat)) (λi=>x (J i)) n (fac p)
 nul:gi (λi=>wy (h (J i))) (λi=>((h (J i)).2.2:Rat)) (λi=>x (J i)) n (fac p) k=0
def Lst.next{n:Nat}{J:Nat->Nat}{t:Rat}(L:Lst h x N n J t){v u:V}(M:v≠u)(O:∀j,j<N->x j<=xr (wy (h j)) v)(P:∀j,j<N->x j<=xr (wy (h j)) u):∃k p,Nxt h x N n J t k p:=by
 obtain⟨w,l,Q⟩:=L.ok.some L.span M (λi d=>O _ (L.lt i d)) (λi d=>P _ (L.lt i d))
 have R:∀i q,clJ h x n J i=some q->0<q.2:=λi q e=>(zfh e).1
 have B:=zmg R n;obtain⟨S,f⟩:=ztd Q
 have f:clJ h x n J w=some S:=f;cases e:ear (clJ h x n J) n with
 |none=>rw[e] at B;rw[B w l] at f;cases f
 |some k=>
  rw[e] at B;obtain⟨z,p,D,mn⟩:=B
  obtain⟨o,E,r⟩:=zfh D
  have F:=zqi o;have T:(0:Rat)<(p.2:Rat):=by rw[show(0:Rat)=((0:Int):Rat) from rfl,Z6];exact o
  have G:fac p*tp (λi=>wy (h (J i))) (λi=>x (J i)) n k=tp (λi=>wy (h (J i))) (λi=>((h (J i)).2.2:Rat)) n k:=by
   have r:(p.1:Rat)*tp (λi=>wy (h (J i))) (λi=>x (J i)) n k=(p.2:Rat)*tp (λi=>wy (h (J i))) (λi=>((h (J i)).2.2:Rat)) n k:=r;generalize tp (λi=>wy (h (J i))) (λi=>x (J i)) n k=A at *;generalize tp (λi=>wy (h (J i))) (λi=>((h (J i)).2.2:Rat)) n k=C at *;rw[<-F] at r;have:(p.2:Rat)*(fac p*A-C)=0:=by grind
   have:=(Y7.mp this).resolve_left (by grind)
   grind
  obtain⟨U,W,X⟩:=L.ok.until z E G (λi d H=>by
   obtain⟨q,g⟩:=ztd H
   have g:clJ h x n J i=some q:=g;have m:=mn i q d g;obtain⟨I,r2,K⟩:=zfh g
   have fq:=zqi I;have Y:(0:Rat)<(q.2:Rat):=by rw[show(0:Rat)=((0:Int):Rat) from rfl,Z6];exact I
   have K:(q.1:Rat)*tp (λi=>wy (h (J i))) (λi=>x (J i)) n i=(q.2:Rat)*tp (λi=>wy (h (J i))) (λi=>((h (J i)).2.2:Rat)) n i:=K;have Z:(p.1:Rat)*(q.2:Rat)<=(q.1:Rat)*(p.2:Rat):=by
    rw[<-Z4,<-Z4,Kt];exact m
   have s:0<tp (λi=>wy (h (J i))) (λi=>x (J i)) n i:=H;generalize tp (λi=>wy (h (J i))) (λi=>x (J i)) n i=A at *;generalize tp (λi=>wy (h (J i))) (λi=>((h (J i)).2.2:Rat)) n i=C at *;rw[<-F] at Z;have a1:0<=(q.1:Rat)-fac p*(q.2:Rat):=zad T (by grind);have a2:=Zn a1 (Zy s);have a3:0<=(C-fac p*A)*(q.2:Rat):=by grind
   have:=zad Y a3
   grind)
  exact⟨k,p,e,z,D,o,E,G,U,⟨L.ok.three,L.ok.srt,L.ok.bend,W⟩,X⟩
theorem Nxt.drop{n:Nat}{J:Nat->Nat}{t:Rat}{k:Nat}{p:Int×Int}(X:Nxt h x N n J t k p)(L:Lst h x N n J t)(g:crI (h (J (nx n k))) (h (J (pv n k)))<0):Lst h x N (n-1) (λi=>J (er k i)) (fac p)/\4<=n:=by
 have d:xr (wy (h (J (nx n k)))) (wy (h (J (pv n k))))<0:=by
  rw[zdy,show(0:Rat)=((0:Int):Rat) from rfl,Z6];exact g
 obtain⟨l,m⟩:=L.ok.drop X.lt X.ok.lens X.nul d
 refine⟨⟨l,λi j e o=>L.mono _ _ (zzp e) (zen X.lt o),λi q=>L.lt _ (zen X.lt q),L.span.drop L.ok X.lt d,L.off.drop X.lt,λs y f r=>?_⟩,m⟩
 refine L.back s y (Jf X.le f) ?_;exact L.ok.back X.lt X.bot X.top f d r
structure FinS(h:Nat->H3)(x:Nat->Rat)(N n:Nat)(J:Nat->Nat)(k:Nat)(p:Int×Int):Prop where
 lt:k<n
 mono:∀i k,i<k->k<n->J i<J k
 le:∀i,i<n->J i<N
 three:3<=n
 cl:clJ h x n J k=some p
 bot:0<p.2
 fac:0<fac p
 keep:∀j,j<N->((h j).2.2:Rat)-DL.fac p*x j<=xr (wy (h j)) (mt (wy (h (J (pv n k)))) (wy (h (J k))) (((h (J (pv n k))).2.2:Rat)-DL.fac p*x (J (pv n k))) (((h (J k)).2.2:Rat)-DL.fac p*x (J k)))
 w0:0<crI (h (J k)) (h (J (nx n k)))
 w1:0<=crI (h (J (nx n k))) (h (J (pv n k)))
 w2:0<crI (h (J (pv n k))) (h (J k))
 sum:((crI (h (J k)) (h (J (nx n k))):Int):Rat)*(((h (J (pv n k))).2.2:Rat)-DL.fac p*x (J (pv n k)))+((crI (h (J (nx n k))) (h (J (pv n k))):Int):Rat)*(((h (J k)).2.2:Rat)-DL.fac p*x (J k))+((crI (h (J (pv n k))) (h (J k)):Int):Rat)*(((h (J (nx n k))).2.2:Rat)-DL.fac p*x (J (nx n k)))=0
def Nxt.finS{n:Nat}{J:Nat->Nat}{t:Rat}{k:Nat}{p:Int×Int}(X:Nxt h x N n J t k p)(L:Lst h x N n J t)(f:0<=crI (h (J (nx n k))) (h (J (pv n k)))):FinS h x N n J k p:=by
 have d:0<=xr (wy (h (J (nx n k)))) (wy (h (J (pv n k)))):=by
  rw[zdy,show(0:Rat)=((0:Int):Rat) from rfl,Kt];exact f
 have pos:∀{a b:H3},0<xr (wy a) (wy b)->0<crI a b:=λ{a b} z=>by
  rw[zdy,show(0:Rat)=((0:Int):Rat) from rfl,Z6] at z;exact z
 have l:=L.off.pos X.ok X.lt d;refine⟨X.lt,L.mono,L.lt,L.ok.three,X.cl,X.pos,?_,?_,pos (L.ok.bend k X.lt),f,pos (L.ok.bendp X.lt),?_⟩
 ·have e:=X.top;have b:=X.bot;generalize tp (λi=>wy (h (J i))) (λi=>x (J i)) n k=A at *;generalize tp (λi=>wy (h (J i))) (λi=>((h (J i)).2.2:Rat)) n k=C at *;by_cases z:0<DL.fac p
  ·exact z
  ·have:=Zn (show 0 <= - DL.fac p by grind) (Zy b)
   grind
 ·exact L.back (DL.fac p) _ X.le (λi g=>X.ok.keeps k i X.lt g)
 ·have z:=X.nul;unfold gi gg ee at z;rw[zdy,zdy,zdy] at z;exact z
end
open Mg Fi Sf
def hS(l:List V)(i:Nat):H3:=zcl (rnd l i) (rnd l (i+1))
def zua(l:List V):(B9 l).length=l.length:=by unfold B9;rw[Zc,zbq]
def zub{l:List V}{i:Nat}(d:i<l.length):(B9 l)[i]? = some (hS l i):=by
 have e:=congrArg (λz=>z[0]?) (zpi d);simp only[Us,Nat.add_zero,Qs] at e;exact e
def lwS(r:List V)(h:H3):Rat:=0-mx (-h.1) (-h.2.1) (lv (-h.1) (-h.2.1) (r.headD (0,0))) r.tail
def zns{h:H3}{q:V}:lv (-h.1) (-h.2.1) q = - xr (wy h) q:=by
 unfold lv;rw[zmn,Rat.intCast_neg,Rat.intCast_neg];grind
def zdi{r:List V}(f:0<r.length)(h:H3):(∀q∈r,lwS r h<=xr (wy h) q)/\∃q∈r,lwS r h=xr (wy h) q:=by
 cases r with
 |nil=>exact absurd f (Wq 0)
 |cons q r=>
  unfold lwS;simp only[List.headD_cons,List.tail_cons];obtain⟨g,l,m⟩:=mx_ok (-h.1) (-h.2.1) r (lv (-h.1) (-h.2.1) q)
  refine⟨λz d=>?_,?_⟩
  ·rcases Zg.mp d with e|e
   ·rw[e];rw[zns] at g;rw[zns];grind
   ·have:=l z e;rw[zns] at this;grind
  ·rcases m with e|⟨z,d,e⟩
   ·exact⟨q,.head _,by rw[e,zns];grind⟩
   ·exact⟨z,.tail _ d,by rw[e,zns];grind⟩
def zdt{l:List V}(h:IsShp l)(i:Nat):∃k:Rat,0<k/\wy (hS l i)=sm k (ed (rnd l) i)/\(((hS l i).2.2:Int):Rat)=xr (wy (hS l i)) (rnd l i):=by
 have f:=h.three;have m:=zgd (nodup h) vB i;obtain⟨k,n,d,e,g⟩:=(zlm (a:=(rnd l i).2-(rnd l (i+1)).2) (b:=(rnd l (i+1)).1-(rnd l i).1) (c:=((rnd l i).2-(rnd l (i+1)).2)*(rnd l i).1+((rnd l (i+1)).1-(rnd l i).1)*(rnd l i).2) (zev m)).scale
 have d:(((hS l i).1:Int):Rat)=_:=d;have e:(((hS l i).2.1:Int):Rat)=_:=e;have g:(((hS l i).2.2:Int):Rat)=_:=g;refine⟨k,n,?_,?_⟩
 ·unfold wy sm ed mn;rw[d,e];exact Yh (by dsimp only) (by dsimp only;grind)
 ·rw[zmn,d,e,g];grind
def zmz{l:List V}(d:IsShp l):Sds (λi=>wy (hS l i)) (rnd l) (λi=>((hS l i).2.2:Rat)) l.length:=
 ⟨zcs d (nodup d),λi _=>by obtain⟨k,f,e,_⟩:=zdt d i;exact⟨k,f,e⟩,λi _=>by obtain⟨k,f,_,e⟩:=zdt d i;exact e⟩
def zsh{l:List V}(d:IsShp l)(x:Nat->Rat):Lst (hS l) x l.length l.length (λi=>i) 0:=
 ⟨(zmz d).ok,λ_ _ h _=>h,λ_ h=>h,(zmz d).span,(zmz d).off,λ_ _ _ h=>h⟩
structure Hb(h:H3):Prop where
 a:h.1.natAbs<2^90
 b:h.2.1.natAbs<2^90
 c:h.2.2.natAbs<2^150
def Hb.hb{h:H3}(b:Hb h){n:Nat}(d:150<=n):HB n h:=⟨Zf b.a (Bx vB),Zf b.b (Bx vB),Zf b.c (Bx d)⟩
def ymu{t g:Int}{n:Nat}(f:g∣t)(h:t.natAbs<2^n):(t.fdiv g).natAbs<2^n:=by
 obtain⟨x,d⟩:=f
 rcases Ul (g=0) with z|z
 ·rw[z,Int.fdiv_zero];exact J3 _
 ·rw[d,Z3 _ z];rcases Ul (x=0) with e|e
  ·rw[e];exact J3 _
  ·refine Yk ?_ h;exact zam ⟨g,by rw[d,Qu]⟩ (by rw[d];exact Yc z e)
def Sy.sub{a b c d k:Nat}{x y:Rat}(e:Sy a b x)(f:Sy c d y)(g:a+d<=k)(h:c+b<=k):Sy (k+1) (b+d) (x-y):=by
 rw[Je];exact e.add f.neg g h
def syI{i:Int}{n:Nat}(h:i.natAbs<2^n):Sy n 1 (i:Rat):=⟨by rw[Rat.num_intCast];exact h,by rw[Rat.den_intCast];decide⟩
def zcg{h k:H3}(a:Hb h)(b:Hb k):(crI h k).natAbs<2^181:=by
 unfold crI;have d:(h.1*k.2.1).natAbs<2^180:=by rw[Yb];exact zay a.a b.b
 have f:(h.2.1*k.1).natAbs<2^180:=by rw[Yb];exact zay a.b b.a
 have e:(2:Nat)^181=2^180+2^180:=by rw[Ua,Vp]
 rw[e];generalize (2:Nat)^180=M at *;omega
def zwk{a b c:Int}{n:Nat}(d:a.natAbs<2^n)(f:b.natAbs<2^n)(g:c.natAbs<2^n):(0-a-b-c).natAbs<2^(n+2):=by
 have e:(2:Nat)^(n+2)=2^n*4:=by rw[Nat.pow_add]
 rw[e];generalize (2:Nat)^n=M at *;omega
def zte{A B C:H3}{u v w:Rat}{p:Int×Int}(f:Hb A)(g:Hb B)(l:Hb C)(q:Sz 2000 u)(r:Sz 2000 v)(s:Sz 2000 w)(h:clo3 A B C u v w=some p):p.1.natAbs<2^6400/\p.2.natAbs<2^6400:=by
 unfold clo3 at h;split at h
 ·cases h;have d:∀{a b c:Int}{m n k:Nat},a.natAbs<2^m->b.natAbs<2^n->c.natAbs<2^k->(a*b*c).natAbs<2^(m+n+k):=λD E F=>by
   rw[Yb,Yb];exact zay (zay D E) F
  have o:∀x:Rat,Sz 2000 x->((x.den:Int)).natAbs<2^2000:=λx z=>z.b
  have c:(1*(u.den:Int)*(v.den:Int)*(w.den:Int)).natAbs<2^(2000+2000+2000):=by
   rw[Vs];exact d (o _ q) (o _ r) (o _ s)
  have e:∀x y:Rat,Sz 2000 x->Sz 2000 y->((x.den:Int)*(y.den:Int)).natAbs<2^(2000+2000):=λx y z G=>by
   rw[Yb];exact zay (o _ z) (o _ G)
  refine⟨Zf (zwk (n:=181+150+(2000+2000+2000)) ?_ ?_ ?_) (Bx vA),Zf (zwk (n:=181+2000+(2000+2000)) ?_ ?_ ?_) (Bx vA)⟩
  ·exact d (zcg g l) f.c c
  ·exact d (zcg l f) g.c c
  ·exact d (zcg f g) l.c c
  ·exact d (zcg g l) q.t (e _ _ r s)
  ·exact d (zcg l f) r.t (e _ _ q s)
  ·exact d (zcg f g) s.t (e _ _ q r)
 ·cases h
def lwS_sz{r:List V}{h:H3}(g:0<r.length)(b:Hb h)(d:SyL 600 600 r):Sz 2000 (lwS r h):=by
 obtain⟨_,q,f,e⟩:=zdi g h
 rw[e,zmn];exact(((syI b.a).mul (d q f).1).add ((syI b.b).mul (d q f).2) (k:=1291) vA vA).sz vA vA
open Mg Fi Sf
def toL(e:Int×Int):List Int:=[e.1,e.2]
def ofL(k:List Int):Int×Int:=(k.getD 0 0,k.getD 1 0)
def ymh{a b c d:Int}(h:ltK [a,b] [c,d]=true)(e:a≠c):a<c:=by
 unfold ltK at h;simp only[J2,Zk,decide_eq_true_eq,beq_iff_eq] at h;omega
def zkd{L:List (Int×Int)}(s:L.Nodup)(t:∀e∈L,∀l∈L,e.1=l.1->e=l):∃S:List (Int×Int),ssK (L.map toL)=S.map toL/\S.Perm L/\S.Pairwise (λe l=>e.1<l.1):=by
 have u:∀x∈L.map toL,isPr x=true:=λx f=>by
  obtain⟨e,_,q⟩:=Zv.mp f
  rw[<-q];rfl
 have o:=zph u;have n:∀x,x∈ssK (L.map toL)↔x∈L.map toL:=λx=>ssK_mem
 generalize ssK (L.map toL)=m at *;have g:∀x∈m,toL (ofL x)=x/\ofL x∈L:=λx f=>by
  obtain⟨e,v,q⟩:=Zv.mp ((n x).mp f)
  rw[<-q];exact⟨rfl,v⟩
 have w:m=(m.map ofL).map toL:=by
  rw[Ye];conv=>lhs;rw[<-List.map_id m]
  exact Wb λx f=>(g x f).1.symm
 have p:(m.map ofL).Pairwise (λe l=>e.1<l.1):=by
  rw[Ql];refine o.imp_of_mem λ{x y} f A d=>?_;obtain⟨B,C⟩:=g x f
  obtain⟨D,E⟩:=g y A
  rw[<-B,<-D] at d;by_cases r:(ofL x).1=(ofL y).1
  ·have:=t _ C _ E r
   rw[this] at d;unfold toL ltK at d;simp at d
  ·exact ymh d r
 refine⟨m.map ofL,w,?_,p⟩
 refine(List.perm_ext_iff_of_nodup (p.imp λ{a b} h z=>?_) s).mpr λe=>?_
 ·rw[z] at h;exact absurd h (Uw _)
 ·constructor
  ·intro h;obtain⟨x,f,q⟩:=Zv.mp h
   rw[<-q];exact(g x f).2
  ·intro h;exact Zv.mpr ⟨toL e,(n _).mpr (Zv.mpr ⟨e,h,rfl⟩),rfl⟩
def zcm{d:Type}{f:d->Int}{l m:List d}(h:l.Perm m):(l.map f).sum=(m.map f).sum:=by
 induction h with
 |nil=>rfl
 |cons _ _ e=>simp only[Zx,Wd,e]
 |swap a b l=>simp only[Zx,Wd];omega
 |trans _ _ a b=>exact a.trans b
def zni{d:Type}{f:d->Rat}{l m:List d}(h:l.Perm m):(l.map f).sum=(m.map f).sum:=by
 induction h with
 |nil=>rfl
 |cons _ _ e=>simp only[Zx,Wd,e]
 |swap a b l=>simp only[Zx,Wd];grind
 |trans _ _ a b=>exact a.trans b
structure Cert(h:Nat->H3)(x:Nat->Rat)(N:Nat)(t:Rat)(S:List (Int×Int)):Prop where
 len:S.length=2\/S.length=3
 ok:∀e∈S,∃j:Nat,e.1=(j:Int)/\j<N/\1<=e.2/\e.2.natAbs<2^181
 srt:S.Pairwise (λe e'=>e.1<e'.1)
 sa:(S.map λe=>e.2*(h e.1.toNat).1).sum=0
 sb:(S.map λe=>e.2*(h e.1.toNat).2.1).sum=0
 sc:(((S.map λe=>e.2*(h e.1.toNat).2.2).sum:Int):Rat)=t*(S.map λe=>(e.2:Rat)*x e.1.toNat).sum
def yoh{h:Nat->H3}{x:Nat->Rat}{N n:Nat}{J:Nat->Nat}{k:Nat}{p:Int×Int}(F:FinS h x N n J k p)(u:∀j,Hb (h j)):∃S:List (Int×Int),
  ssK (shK (J (pv n k):Nat) (J k:Nat) (J (nx n k):Nat) (crI (h (J k)) (h (J (nx n k)))) (crI (h (J (nx n k))) (h (J (pv n k)))) (crI (h (J (pv n k))) (h (J k)))
   (gc (gc (gc 0 (crI (h (J k)) (h (J (nx n k))))) (crI (h (J (nx n k))) (h (J (pv n k))))) (crI (h (J (pv n k))) (h (J k)))))=S.map toL/\Cert h x N (fac p) S:=by
 have inj:∀i j,i<n->j<n->i≠j->J i≠J j:=λi j hi hj ne=>by
  rcases Yf i j with z|z
  ·have:=F.mono i j z hj;omega
  ·have:=F.mono j i vB hi;omega
 have B:=F.three;have a0:J (pv n k)≠J k:=inj _ _ (zda F.lt) F.lt (by unfold pv;have:=F.lt;split<;>omega);have a1:J (pv n k)≠J (nx n k):=inj _ _ (zda F.lt) (zdz F.lt) (zrw B F.lt);have a2:J k≠J (nx n k):=inj _ _ F.lt (zdz F.lt) (by unfold nx;have:=F.lt;split<;>omega);have X:=F.le _ (zda F.lt);have l1:=F.le _ F.lt;have l2:=F.le _ (zdz F.lt);have w0:=F.w0;have w1:=F.w1;have w2:=F.w2;have sum:=F.sum;have b0:=zcg (u (J k)) (u (J (nx n k)));have b1:=zcg (u (J (nx n k))) (u (J (pv n k)));have b2:=zcg (u (J (pv n k))) (u (J k));have Y:crI (h (J k)) (h (J (nx n k)))*(h (J (pv n k))).1+crI (h (J (nx n k))) (h (J (pv n k)))*(h (J k)).1+crI (h (J (pv n k))) (h (J k))*(h (J (nx n k))).1=0:=by unfold crI;grind
 have Z:crI (h (J k)) (h (J (nx n k)))*(h (J (pv n k))).2.1+crI (h (J (nx n k))) (h (J (pv n k)))*(h (J k)).2.1+crI (h (J (pv n k))) (h (J k))*(h (J (nx n k))).2.1=0:=by unfold crI;grind
 generalize crI (h (J k)) (h (J (nx n k)))=o at *;generalize crI (h (J (nx n k))) (h (J (pv n k)))=r at *;generalize crI (h (J (pv n k))) (h (J k))=s at *;generalize J (pv n k)=w at *;generalize J k=G at *;generalize J (nx n k)=A at *;have gp:0<gc (gc (gc 0 o) r) s:=zgl vB;have d2:gc (gc (gc 0 o) r) s∣s:=Wi _ _;have H:gc (gc (gc 0 o) r) s∣gc (gc 0 o) r:=Qx _ _;have d1:gc (gc (gc 0 o) r) s∣r:=Wr H (Wi _ _);have d0:gc (gc (gc 0 o) r) s∣o:=Wr H (Wr (Qx _ _) (Wi _ _));generalize gc (gc (gc 0 o) r) s=g at *;have f:∀W:Int,g∣W->W.natAbs<2^181->0<=W->∃v:Int,W.fdiv g=v/\W=g*v/\v.natAbs<2^181/\0<=v:=λW hd u hW=>by
  have hf:=ymu hd u;obtain⟨v,e⟩:=hd
  have C:W.fdiv g=v:=by rw[e];exact Z3 _ vB
  rw[C] at hf;refine⟨v,C,e,hf,?_⟩
  by_cases z:0<=v
  ·exact z
  ·have:=V5 gp (show v<0 by omega)
   omega
 obtain⟨D,f0,P,c0,p0⟩:=f o d0 b0 vB
 obtain⟨v1,f1,I,c1,p1⟩:=f r d1 b1 w1
 obtain⟨E,f2,C,c2,p2⟩:=f s d2 b2 vB
 have K:1<=D:=by
  by_cases z:D=0
  ·rw[z] at P;omega
  ·omega
 have M:1<=E:=by
  by_cases z:E=0
  ·rw[z] at C;omega
  ·omega
 have l:∀z:Int,g*z=0->z=0:=λz Q=>(Vu.mp Q).resolve_left vB
 have gr:(g:Rat)≠0:=λz=>by have:=W3.mp z;omega
 have O:∀z:Rat,(g:Rat)*z=0->z=0:=λz Q=>(Y7.mp Q).resolve_left gr
 have sa:D*(h w).1+v1*(h G).1+E*(h A).1=0:=l _ (by rw[P,I,C] at Y;grind);have sb:D*(h w).2.1+v1*(h G).2.1+E*(h A).2.1=0:=l _ (by rw[P,I,C] at Z;grind);have sc:(D:Rat)*(((h w).2.2:Rat)-fac p*x w)+(v1:Rat)*(((h G).2.2:Rat)-fac p*x G)+(E:Rat)*(((h A).2.2:Rat)-fac p*x A)=0:=O _ (by
  rw[P,I,C] at sum;simp only[Z4] at sum;grind)
 clear sum Y Z;unfold shK kk1;rw[if_neg (show ¬o=0 by omega),if_neg (show ¬s=0 by omega),f0,f1,f2];by_cases z:r=0
 ·rw[if_pos z];have R:v1=0:=l _ (by rw[<-I];exact z);obtain⟨S,T,d,U⟩:=zkd (L:=[((w:Int),D),((A:Int),E)]) (by simp;omega) (by
   intro e t e' m q;simp only[Zg,Zu,or_false] at t m;rcases t with rfl|rfl<;>rcases m with rfl|rfl
   ·rfl
   ·simp only at q;omega
   ·simp only at q;omega
   ·rfl)
  refine⟨S,T,Or.inl (by rw[d.length_eq];rfl),λe t=>?_,U,?_,?_,?_⟩
  ·have:=d.mem_iff.mp t
   simp only[Zg,Zu,or_false] at this;rcases this with rfl|rfl
   ·exact⟨w,rfl,X,K,c0⟩
   ·exact⟨A,rfl,l2,M,c2⟩
  ·rw[zcm d];simp only[Zx,Wh,Wd,Ko,Z9];rw[R] at sa;omega
  ·rw[zcm d];simp only[Zx,Wh,Wd,Ko,Z9];rw[R] at sb;omega
  ·rw[zcm d,zni d];simp only[Zx,Wh,Wd,Ko,Z9,Jb,Z4];rw[R] at sc;rw[show((0:Int):Rat)=0 from rfl] at sc |-;grind
 ·rw[if_neg z];have V:1<=v1:=by
   by_cases y:v1=0
   ·rw[y] at I;omega
   ·omega
  obtain⟨S,T,d,U⟩:=zkd (L:=[((w:Int),D),((G:Int),v1),((A:Int),E)]) (by simp;omega) (by
   intro e t e' m q;simp only[Zg,Zu,or_false] at t m;rcases t with rfl|rfl|rfl<;>rcases m with rfl|rfl|rfl<;>first|rfl|(simp only at q;omega))
  refine⟨S,T,Or.inr (by rw[d.length_eq];rfl),λe t=>?_,U,?_,?_,?_⟩
  ·have:=d.mem_iff.mp t
   simp only[Zg,Zu,or_false] at this;rcases this with rfl|rfl|rfl
   ·exact⟨w,rfl,X,K,c0⟩
   ·exact⟨G,rfl,l1,V,c1⟩
   ·exact⟨A,rfl,l2,M,c2⟩
  ·rw[zcm d];simp only[Zx,Wh,Wd,Ko,Z9];omega
  ·rw[zcm d];simp only[Zx,Wh,Wd,Ko,Z9];omega
  ·rw[zcm d,zni d];simp only[Zx,Wh,Wd,Ko,Z9,Jb,Z4];rw[show((0:Int):Rat)=0 from rfl];grind
def dvd_g{g:Int}{t:H3}(d:g∣t.1)(e:g∣t.2.1)(f:g∣t.2.2):g∣gc (gc t.1 t.2.1) t.2.2:=Jc (Jc d e) f
def zqo{d n s:Int}(e:Int.gcd d n=1)(h:d∣n*s):d∣s:=by
 rw[<-Gj] at h |-;rw[Yb] at h;exact Nat.Coprime.dvd_of_dvd_mul_left e h
open Mg Fi Sf
open Mg Fi Sf PySem
section
variable{α:Type}{f:Nat->α}
def zej{n i:Nat}(h:i<n):((List.range n).map f)[i]? = some (f i):=by rw[Zh,Uk h];rfl
def znc{n k:Nat}(e:k<n):((List.range n).map f).eraseIdx k=(List.range (n-1)).map λi=>f (er k i):=by
 apply Ka
 intro i;rw[List.getElem?_eraseIdx];by_cases d:i<n-1
 ·rw[zej d];unfold er;split
  ·rw[zej vB]
  ·rw[zej vB]
 ·rw[Yn (l:=(List.range (n-1)).map _) (by rw[Zc,Z7];omega)];split
  ·next z=>omega
  ·rw[Yn (by rw[Zc,Z7];omega)]
def zkf{n:Nat}{i:Int}{j:Nat}(d:j<n)(h:i=(j:Int)\/i=(j:Int)-n):L2.atI ((List.range n).map f) i=some (f j):=by
 have e:L2.ixN ((List.range n).map f).length i=some j:=by
  rw[Zc,Z7];unfold L2.ixN;rcases h with h|h
  ·rw[if_pos vB,if_pos vB];congr 1;omega
  ·rw[if_neg vB,if_pos vB];congr 1;omega
 unfold L2.atI;rw[e,Yg,zej d]
end
def flD(p:Nat)(h:H3)(x:Rat)(c:D):List D:=[.int (p:Int),hD h,fr x,c]
def osC(A:Nat->Addr)(h:Nat->H3)(x:Nat->Rat)(n:Nat)(J:Nat->Nat)(c:Nat->D):List (Addr×List D):=(List.range n).map λi=>(A (J i),flD (J i) (h (J i)) (x (J i)) (c i))
def osJ(A:Nat->Addr)(h:Nat->H3)(x:Nat->Rat)(n:Nat)(J:Nat->Nat):List (Addr×List D):=osC A h x n J λi=>clD (clJ h x n J i)
section
variable{A:Nat->Addr}{h:Nat->H3}{x:Nat->Rat}{n:Nat}{J:Nat->Nat}{c:Nat->D}
def ylk:(osC A h x n J c).length=n:=by unfold osC;rw[Zc,Z7]
def zpu:dOs (osC A h x n J c)=(List.range n).map λi=>bD (A (J i)) (J i:Int) (h (J i)) (x (J i)) (c i):=by
 unfold dOs osC;rw[Ye];rfl
def zlg{i:Nat}{d:D}(g:i<n)(inj:∀i j,i<n->j<n->A (J i)=A (J j)->i=j):setC (osC A h x n J c) (A (J i)) d=osC A h x n J λj=>if j=i then d else c j:=by
 unfold setC osC;rw[Ye];refine Wb λj f=>?_;have f:=Yw.mp f;show(A (J j),if A (J j)=A (J i) then(flD (J j) (h (J j)) (x (J j)) (c j)).set 3 d else flD (J j) (h (J j)) (x (J j)) (c j))=(A (J j),flD (J j) (h (J j)) (x (J j)) (if j=i then d else c j));by_cases e:j=i
 ·subst e;rw[if_pos rfl,if_pos rfl];rfl
 ·rw[if_neg (λz=>e (inj j i f g z)),if_neg e]
def zlh{i:Nat}(d:i<n):A (J i)∈(osC A h x n J c).map (·.1):=by
 unfold osC;rw[Ye];exact Zv.mpr ⟨i,Yw.mpr d,rfl⟩
def znk{d:Nat->D}(e:∀i,i<n->c i=d i):osC A h x n J c=osC A h x n J d:=by
 unfold osC;refine Wb λj f=>?_;rw[e j (Yw.mp f)]
def l1(n k:Nat):Nat:=if k=0 then n-2 else k-1
def l2(n k:Nat):Nat:=if k=n-1 then 0 else k
def yfr{k i:Nat}(d:3<=n)(e:k<n)(f:i<n-1)(g:i≠l1 n k)(l:i≠l2 n k):clJ h x (n-1) (λi=>J (er k i)) i=clJ h x n J (er k i):=by
 unfold clJ;have m:=ynl d e f;have o:=er_pv d e f;have p:nx n (er k i)≠k:=by
  unfold l1 at g;unfold nx er;split at g<;>(repeat' split)<;>omega
 have q:pv n (er k i)≠k:=by
  unfold l2 at l;unfold pv er;split at l<;>(repeat' split)<;>omega
 rw[if_neg p] at m;rw[if_neg q] at o;dsimp only;rw[m,o]
def yds{k:Nat}(l:3<=n)(f:k<n)(inj:∀i j,i<n->j<n->A (J i)=A (J j)->i=j):
  setC (setC ((osJ A h x n J).eraseIdx k) (A (J (er k (l1 n k)))) (clD (clJ h x (n-1) (λi=>J (er k i)) (l1 n k)))) (A (J (er k (l2 n k)))) (clD (clJ h x (n-1) (λi=>J (er k i)) (l2 n k)))=osJ A h x (n-1) (λi=>J (er k i)):=by
 have m:(osJ A h x n J).eraseIdx k=osC A h x (n-1) (λi=>J (er k i)) λi=>clD (clJ h x n J (er k i)):=by
  unfold osJ osC;rw[znc f]
 have o:l1 n k<n-1:=by unfold l1;split<;>omega
 have p:l2 n k<n-1:=by unfold l2;split<;>omega
 have d:∀i j,i<n-1->j<n-1->A (J (er k i))=A (J (er k j))->i=j:=λi j g q e=>by
  have:=inj _ _ (zen f g) (zen f q) e
  unfold er at this;split at this<;>split at this<;>omega
 rw[m,zlg (J:=λi=>J (er k i)) o d,zlg (J:=λi=>J (er k i)) p d];refine znk λi g=>?_;split
 ·next z=>rw[z]
 ·next z=>
  split
  ·next y=>rw[y]
  ·next y=>rw[yfr l f g y z]
end
open Sf
open Mg Fi PySem
section
variable{Γ:Nat->∅}
def Psi(T:D)(a:Addr)(d:D):Prop:=∃(o n p:Addr) (q r s:Int) (e f g:H3) (h l m:Rat) (t u v:D),(Hb e/\Hb f/\Hb g)/\(Sz 2000 h/\Sz 2000 l/\Sz 2000 m)/\T=.tup [bD o q e h t,bD n r f l u,bD p s g m v]/\a=n/\d=clD (clo3 e f g h l m)
def den8{x:Rat}(z:Sz 2000 x):((x.den:Int)).natAbs<2^2000:=z.b
def dnz{x:Rat}:(x.den:Int)≠0:=by have:=x.den_nz;omega
def bd2{a b:Int}{m n:Nat}(d:a.natAbs<2^m)(e:b.natAbs<2^n):(a*b).natAbs<2^(m+n):=by rw[Yb];exact zay d e
def psi_ok(G:Γ 93=zbi):∀T a d,Psi T a d->∃h l,exs Γ o_set_closing.1 ([~~~T]++List.replicate 6 none)=some (.nx h)/\(view h)[6]? = some (some (.obj a l))/\ev Γ o_set_closing.2.1 (view h)=some (.val d):=by
 rintro T a d ⟨L,W,M,N,H,O,o,m,p,f,e,g,P,I,Q,⟨q,r,s⟩,⟨v,w,A⟩,rfl,rfl,rfl⟩
 have R:=zhq (a0:=L) (a1:=a) (a2:=M) (p0:=N) (p1:=H) (p2:=O) (x0:=f) (x1:=e) (x2:=g) (c0:=P) (c1:=I) (c2:=Q) (q.hb vA) (r.hb vA) (s.hb vA);have B:=zcg r s;have C:=zcg s q;have D:=zcg q r;have n:=den8 v;have u:=den8 w;have E:=den8 A;have F:(1:Int).natAbs<2^1:=by decide
 have J:=bd2 (bd2 (bd2 F n) u) E;have S:(1*(f.den:Int)*(e.den:Int)*(g.den:Int)).fdiv (f.den:Int)=(e.den:Int)*(g.den:Int):=by
  rw[show(1*(f.den:Int)*(e.den:Int)*(g.den:Int))=(f.den:Int)*((e.den:Int)*(g.den:Int)) by grind];exact Z3 _ dnz
 have U:(1*(f.den:Int)*(e.den:Int)*(g.den:Int)).fdiv (e.den:Int)=(f.den:Int)*(g.den:Int):=by
  rw[show(1*(f.den:Int)*(e.den:Int)*(g.den:Int))=(e.den:Int)*((f.den:Int)*(g.den:Int)) by grind];exact Z3 _ dnz
 have V:(1*(f.den:Int)*(e.den:Int)*(g.den:Int)).fdiv (g.den:Int)=(f.den:Int)*(e.den:Int):=by
  rw[show(1*(f.den:Int)*(e.den:Int)*(g.den:Int))=(g.den:Int)*((f.den:Int)*(e.den:Int)) by grind];exact Z3 _ dnz
 have K:∀{x:Rat},Sz 2000 x->zbu (x.den:Int)=true:=λz=>zby dnz (den8 z) vA
 have run:=yjw (Γ:=Γ) (a0:=L) (a1:=a) (a2:=M) (p0:=.int N) (p1:=.int H) (p2:=.int O) (cl0:=P) (cl1:=I) (cl2:=Q) (s0:=o.1) (t0:=o.2.1) (u0:=o.2.2) (s1:=m.1) (t1:=m.2.1) (u1:=m.2.2) (s2:=p.1) (t2:=p.2.1) (u2:=p.2.2)
  (n0:=f.num) (n1:=e.num) (n2:=g.num) (d0:=f.den) (d1:=e.den) (d2:=g.den) (w0:=crI m p) (w1:=crI p o) (w2:=crI o m) (c:=1*f.den*e.den*g.den) (e0:=e.den*g.den) (e1:=f.den*g.den) (e2:=f.den*e.den)
  (by rw[G];exact R) (Bu F n vA vA) (Bu (bd2 F n) u vA vA) (Bu (bd2 (bd2 F n) u) E vA vA) rfl
  (Bu B q.c vA vA) (Bu (bd2 B q.c) J vA vA) (Bu B v.t vA vA) (K v) (Bu (bd2 B v.t) (bd2 u E) vA vA) S
  (Bu C r.c vA vA) (Bu (bd2 C r.c) J vA vA) (Bu C w.t vA vA) (K w) (Bu (bd2 C w.t) (bd2 n E) vA vA) U
  (Bu D s.c vA vA) (Bu (bd2 D s.c) J vA vA) (Bu D A.t vA vA) (K A) (Bu (bd2 D A.t) (bd2 n u) vA vA) V
 refine⟨_,[.int H,hD m,fr e,I],run,?_,?_⟩
 ·rfl
 ·exact yjv
def yag(c:Option (Int×Int)):lf (clD c)=true:=by cases c<;>rfl
def zgx{f:Nat->D}{n i:Nat}{k:Int}(d:i<n)(g:2<=n)(h:k=(i:Int)\/(k = -1/\i=n-1)):zco [.lst ((List.range n).map f),.int k]=some (.val (.tup [f (pv n i),f i,f (nx n i)])):=by
 refine ybr (by rw[Zc,Z7];omega) (zkf (zda d) ?_) (zkf d vB) (zkf (zdz d) ?_)
 ·unfold pv;split<;>omega
 ·rw[Zc,Z7,Kc _ vB];left
  unfold nx;split
  ·next e=>
   have:k+1=(n:Int)\/k+1=0:=by omega
   rcases this with z|z
   ·rw[z,Int.emod_self];rfl
   ·rw[z];rfl
  ·next e=>rw[Bm vB vB];omega
def Tht(e:List (Addr×List D))(f:Int)(d:List (Addr×List D)):Prop:=∃(A:Nat->Addr) (h:Nat->H3) (x:Nat->Rat) (n:Nat) (J:Nat->Nat) (k:Nat),(∀i,Hb (h i))/\(∀i,Sz 2000 (x i))/\3<=n/\n<=1000/\k<n/\(∀i j,i<n->j<n->A (J i)=A (J j)->i=j)/\e=osJ A h x n J/\f=(k:Int)/\d=osJ A h x (n-1) λi=>J (er k i)
def zxl{A:Nat->Addr}{h:Nat->H3}{x:Nat->Rat}{n:Nat}{J:Nat->Nat}{c:Nat->D}(d:∀i,Hb (h i))(e:∀i,Sz 2000 (x i))(i:Nat):
  Psi (.tup [bD (A (J (pv n i))) (J (pv n i):Int) (h (J (pv n i))) (x (J (pv n i))) (c (pv n i)),bD (A (J i)) (J i:Int) (h (J i)) (x (J i)) (c i),bD (A (J (nx n i))) (J (nx n i):Int) (h (J (nx n i))) (x (J (nx n i))) (c (nx n i))]) (A (J i)) (clD (clJ h x n J i)):=
 ⟨_,_,_,_,_,_,_,_,_,_,_,_,_,_,_,⟨d _,d _,d _⟩,⟨e _,e _,e _⟩,rfl,rfl,rfl⟩
def ynq(d:Γ 92=zco){L:List D}{k:Int}{T:D}(h:zco [.lst L,.int (k-1)]=some (.val T)):evs Γ o_drop.1 [some (.lst L),some (.int k)]=some [T]:=by
 unfold o_drop;dsimp only;walk_at "evh"
def ynp(d:Γ 92=zco){L:List D}{k m:Int}{T:D}(e:(L.length:Int)=m)(f:0<m)(mn:m≠0)(h:zco [.lst L,.int (k%m)]=some (.val T)):evs Γ o_drop.2 [some (.lst L),some (.int k)]=some [T]:=by
 unfold o_drop;dsimp only;walk_at "evh"
def tht_ok(o:Γ 92=zco):∀d g l,Tht d g l -> -(2^63)<=g/\g<2^63/\∃n B r s C u v,seqIndex? g d.length=some n/\n<d.length /\
   evs Γ o_drop.1 [some (.lst (dOs (d.eraseIdx n))),some (.int g)]=some [B]/\Psi B r s/\lf s=true/\r∈(d.eraseIdx n).map (·.1) /\
   evs Γ o_drop.2 [some (.lst (dOs (setC (d.eraseIdx n) r s))),some (.int g)]=some [C]/\Psi C u v/\lf v=true/\u∈(d.eraseIdx n).map (·.1)/\l=setC (setC (d.eraseIdx n) r s) u v:=by
 rintro d g l ⟨A,h,x,n,J,k,D,sx,G,L,p,inj,rfl,rfl,rfl⟩
 have E:(osJ A h x n J).length=n:=ylk;have w:l1 n k<n-1:=by unfold l1;split<;>omega
 have F:l2 n k<n-1:=by unfold l2;split<;>omega
 have q:∀i j,i<n-1->j<n-1->A (J (er k i))=A (J (er k j))->i=j:=λi j H I e=>by
  have:=inj _ _ (zen p H) (zen p I) e
  unfold er at this;split at this<;>split at this<;>omega
 have t:(osJ A h x n J).eraseIdx k=osC A h x (n-1) (λi=>J (er k i)) λi=>clD (clJ h x n J (er k i)):=by
  unfold osJ osC;rw[znc p]
 have K:setC ((osJ A h x n J).eraseIdx k) (A (J (er k (l1 n k)))) (clD (clJ h x (n-1) (λi=>J (er k i)) (l1 n k)))=osC A h x (n-1) (λi=>J (er k i)) λj=>if j=l1 n k then clD (clJ h x (n-1) (λi=>J (er k i)) (l1 n k)) else clD (clJ h x n J (er k j)):=by
  rw[t,zlg (J:=λi=>J (er k i)) w q]
 refine⟨by omega,by omega,k,_,_,_,_,_,_,?_,by rw[E];exact p,?_,zxl (A:=A) (J:=λi=>J (er k i)) (n:=n-1) (c:=λi=>clD (clJ h x n J (er k i))) D sx (l1 n k),yag _,?_,?_,zxl (A:=A) (J:=λi=>J (er k i)) (n:=n-1) (c:=λj=>if j=l1 n k then clD (clJ h x (n-1) (λi=>J (er k i)) (l1 n k)) else clD (clJ h x n J (er k j))) D sx (l2 n k),yag _,?_,(yds G p inj).symm⟩
 ·rw[E];exact(L2.ixN_seq (show L2.ixN n (k:Int)=some k by unfold L2.ixN;rw[if_pos vB,if_pos vB];congr 1)).1
 ·rw[t,zpu];refine ynq o (zgx (f:=λi=>bD (A (J (er k i))) (J (er k i):Int) (h (J (er k i))) (x (J (er k i))) (clD (clJ h x n J (er k i)))) w vB ?_);unfold l1;split<;>omega
 ·rw[t];exact zlh (J:=λi=>J (er k i)) w
 ·rw[K,zpu];refine ynp o (m:=((n-1:Nat):Int)) (by rw[Zc,Z7]) vB vB (zgx (f:=λj=>bD (A (J (er k j))) (J (er k j):Int) (h (J (er k j))) (x (J (er k j))) (if j=l1 n k then clD (clJ h x (n-1) (λi=>J (er k i)) (l1 n k)) else clD (clJ h x n J (er k j)))) F vB (.inl ?_));unfold l2;split
  ·next z=>rw[show(k:Int)=((n-1:Nat):Int) by omega,Int.emod_self];rfl
  ·next z=>exact Bm vB vB
 ·rw[t];exact zlh (J:=λi=>J (er k i)) F
end
open Sf
open Mg Fi PySem
section
variable{Γ:Nat->∅}
def znv{a b:Int}{q:Rat×Rat}(l:a.natAbs<2^110)(m:b.natAbs<2^110)(e:Sz 600 q.1)(f:Sz 600 q.2):zee [.int a,.int b,stD q]=some (.val (fr (lv a b q))):=by
 unfold zee;generalize d:tab zha=Γ;have o:Γ 9=zde:=by rw[<-d];rfl
 have n:Γ 11=zae:=by rw[<-d];rfl
 have g:=zeb l vA;have h:=zeb m vA;have p:zae [.tup [.int a,.int 1],fr q.1]=some (.val (fr ((a:Rat)*q.1))):=zal (x:=(a:Rat)) (zaa g e vA vA);have r:zae [.tup [.int b,.int 1],fr q.2]=some (.val (fr ((b:Rat)*q.2))):=zal (x:=(b:Rat)) (zaa h f vA vA);have s:zde [fr ((a:Rat)*q.1),fr ((b:Rat)*q.2)]=some (.val (fr (lv a b q))):=zal (zaa (g.mul e) (h.mul f) vA vA);generalize fr (lv a b q)=O at *;generalize fr ((a:Rat)*q.1)=X at *;generalize fr ((b:Rat)*q.2)=Y at *;clear g h l m e f d;unfold zmj stD;walk_at "evh"
def zuj(e:Γ 50=zee)(f:Γ 21=zgi){L:Option DL.B}{a b:Int}{X Q O:D}{d:Option DL.B}{c:Bool}(g:lf O=true)(h:lf X=true)(l1:zee [.int a,.int b,Q]=some (.val O))(l:zgi [X,O]=some (.val (.bl c))):
  exs Γ zfi [L,~~~.int a,~~~.int b,~~~X,~~~Q,d]=some (.nx [L,~~~.int a,~~~.int b,~~~(if c=true then O else X),~~~Q,~~~O]):=by
 unfold zfi;cases c
 ·walk_at "evh"
 ·walk_at "evh"
theorem zsi(f:Γ 50=zee)(g:Γ 21=zgi){a b:Int}(l:a.natAbs<2^110)(m:b.natAbs<2^110)(L:Option DL.B):∀(r:List (Rat×Rat)) (x:Rat) (c d:Option DL.B),SzL 600 r->Sz 1500 x ->
  ∃n o,forN (zas (.name 4)) (exs Γ zfi) (r.map stD) [L,~~~.int a,~~~.int b,~~~fr x,c,d]=some (.nx [L,~~~.int a,~~~.int b,~~~fr (mx a b x r),n,o])
 |[],x,c,d,_,_=>⟨c,d,rfl⟩
 |q::r,x,c,d,p,v=>by
  obtain⟨s,t⟩:=p q (.head _)
  have w:Sz 1500 (lv a b q):=(((zeb l vA).mul s).add ((zeb m vA).mul t)).mono vA;obtain⟨n,o,k⟩:=zsi f g l m L r (if x<lv a b q then lv a b q else x) (~~~stD q) (~~~fr (lv a b q)) (λy z=>p y (.tail _ z)) (by split<;>assumption)
  refine⟨n,o,?_⟩
  have A:zgi [fr x,fr (lv a b q)]=some (.val (.bl (decide (x<lv a b q)))):=zal (zaa v w vA vA);have u:=zuj (L:=L) (d:=d) f g (ziv _) (ziv _) (znv l m s t) A;have e:(if decide (x<lv a b q)=true then fr (lv a b q) else fr x)=fr (if x<lv a b q then lv a b q else x):=by
   by_cases h:x<lv a b q
   ·rw[decide_eq_true h,if_pos rfl,if_pos h]
   ·rw[decide_eq_false h,if_neg vA,if_neg h]
  rw[e] at u;rw[Zx,ziy rfl u];exact k
def zxd{a b:Int}(e:a.natAbs<2^110)(f:b.natAbs<2^110){q:Rat×Rat}{r:List (Rat×Rat)}(g:SzL 600 (q::r)):zez [.lst ((q::r).map stD),.int a,.int b]=some (.val (fr (mx a b (lv a b q) r))):=by
 unfold zez;generalize d:tab zgz=Γ;have h:Γ 50=zee:=by rw[<-d];rfl
 have m:Γ 21=zgi:=by rw[<-d];rfl
 obtain⟨n,o⟩:=g q (.head _)
 have l1:=znv e f n o;obtain⟨s,t,k⟩:=zsi h m e f (~~~.lst ((q::r).map stD)) r (lv a b q) none none (λy p=>g y (.tail _ p)) ((((zeb e vA).mul n).add ((zeb f vA).mul o)).mono vA)
 have u:L2.atI ((q::r).map stD) 0=some (stD q):=by rw[Zx,ybe vA (by rw[Zr];omega)];rfl
 have v:cutD ((q::r).map stD) (some 1) none=r.map stD:=by
  have:=ztb (l:=(q::r).map stD) (a:=1) (by rw[Zc,Zr];omega)
  rw[show((1:Nat):Int)=1 from rfl] at this;rw[this];rfl
 have w:=zcu r;unfold zfi at k;generalize (q::r).map stD=z at *;generalize r.map stD=A at *;generalize stD q=Q at *;generalize mx a b (lv a b q) r=M at *;generalize lv a b q=X at *;clear n o g e f d;unfold zjk;walk_at "evh"
def bo_it(f:Γ 40=zed){d e:D}{L:List D}(h:zed [d]=some (.new L)):evI Γ o_bounds_of.1 [~~~d,~~~e,none,none,none,none,none]=some (zdb L,[~~~d,~~~e,none,none,none,none,none]):=by
 have g:frz [~~~d,~~~e,none,none,none,none,none]=[~~~d,~~~e,none,none,none,none,none]:=rfl;unfold o_bounds_of;dsimp only;walk_at "evh"
def bo_le(e:Γ 10=zav)(f:Γ 59=zez){g d p:D}{a b c:Int}{h:Option D}{M O:D}(l:zez [d,.int (-a),.int (-b)]=some (.val M))(m:zav [.tup [.int 0,.int 1],M]=some (.val O)):ev Γ o_bounds_of.2.1 (rB g d (some p) (some (.tup [.int a,.int b,.int c])) h none)=some (.val O):=by
 unfold o_bounds_of rB;dsimp only;walk_at "evh"
def bo_s3(e:Γ 92=zco){f g:D}{l m n:Option D}{k:Int}{d:List (Addr×List D)}{T:D}(h:zco [.lst (dOs d),.int k]=some (.val T)):evs Γ o_bounds_of.2.2.1 (rhoB (rB f g l m n (some (.int k))) 2 d)=some [T]:=by
 unfold o_bounds_of rhoB rB;dsimp only;walk_at "evh"
def bo_sl{f g:D}{h l m:Option D}{d:List (Addr×List D)}:evs Γ o_bounds_of.2.2.2 (rhoB (rB f g h l m none) 2 d)=some [.int (d.length:Int)]:=by
 have e:((dOs d).length:Int)=(d.length:Int):=by unfold dOs;rw[Zc]
 unfold o_bounds_of rhoB rB;dsimp only;walk_at "evh"
structure Bd2(l r:List V):Prop where
 hl:IsShp l
 hr:IsShp r
 zl:SzL 165 l
 hb:∀i,Hb (hS l i)
 zr:SyL 600 600 r
 fl:l.length<=60
 fr:r.length<=60
def Bd2.pr{l r:List V}(T:Bd2 l r):0<r.length:=by have:=T.hr.three;omega
def xS(l r:List V)(i:Nat):Rat:=lwS r (hS l i)
def Bd2.sx{l r:List V}(T:Bd2 l r)(i:Nat):Sz 2000 (xS l r i):=lwS_sz T.pr (T.hb i) T.zr
def lsS(l r:List V)(c:Nat->D):List (List D):=(List.range l.length).map λi=>flD i (hS l i) (xS l r i) (c i)
def Xi(d e:D)(f:List (List D)):Prop:=∃l r,Bd2 l r/\d=.lst (l.map stD)/\e=.lst (r.map stD)/\f=lsS l r λi=>clD (clJ (hS l) (xS l r) l.length (λi=>i) i)
def zxc{l r:List V}(T:Bd2 l r)(i:Nat):∃M,zez [.lst (r.map stD),.int (-(hS l i).1),.int (-(hS l i).2.1)]=some (.val (fr M))/\zav [.tup [.int 0,.int 1],fr M]=some (.val (fr (xS l r i))):=by
 have g:=T.hb i;have d:=T.sx i;have f:=T.zr;have h:=T.pr;unfold xS lwS at *;match r,h,f,d with
 |q::r,_,f,d=>
  refine⟨_,zxd (by rw[Jn];exact Zf g.a (Bx vA)) (by rw[Jn];exact Zf g.b (Bx vA)) (f.sz vA vA),?_⟩
  have e:mx (-(hS l i).1) (-(hS l i).2.1) (lv (-(hS l i).1) (-(hS l i).2.1) q) r=0-(0-mx (-(hS l i).1) (-(hS l i).2.1) (lv (-(hS l i).1) (-(hS l i).2.1) q) r):=by grind
  simp only[List.headD_cons,List.tail_cons] at d |-;refine zal (x:=0) (zaa (m:=1) (n:=2000) ⟨by decide,by decide⟩ ?_ vA vA);rw[e,Je,Rat.zero_add];exact d.neg
def rng_getD{e:Type}{d:List e}{a:e}:(List.range d.length).map (λi=>d.getD i a)=d:=by
 apply Ka
 intro i;by_cases h:i<d.length
 ·rw[zej h,Z1,Zi h];rfl
 ·rw[Yn (by rw[Zc,Z7];omega),Yn vB]
def zsp{f:Type}{d:List f}{a:f}(g:d.Nodup){i j:Nat}(h:i<d.length)(l:j<d.length)(e:d.getD i a=d.getD j a):i=j:=by
 rw[Z1,Z1,Zi h,Zi l] at e;exact(Kl g).mp e
def xi_ok(E:Γ 40=zed)(F:Γ 10=zav)(G:Γ 59=zez)(H:Γ 92=zco):∀m o I,Xi m o I->∃g q,g.length<1000/\evI Γ o_bounds_of.1 [~~~m,~~~o,none,none,none,none,none]=some (g,[~~~m,~~~o,none,none,none,none,none])/\q.length=g.length /\
   (∀(i:Nat) (d:D),g[i]? = some d->∃p s l,d=D.tup [p,s]/\q[i]? = some [p,s,l,.non]/\∀t,ev Γ o_bounds_of.2.1 (rB m o (some p) (some s) t none)=some (.val l)) /\
   (∀K L t z,z.length=g.length->evs Γ o_bounds_of.2.2.2 (rhoB (rB m o K L t none) 2 z)=some [.int (z.length:Int)]) /\
   ∀h,h.Nodup->h.length=g.length->yaf Γ Psi m o o_bounds_of.2.2.1 g.length h q I:=by
 rintro m o I ⟨l,r,T,rfl,rfl,rfl⟩
 have N:=T.hl.three;have B:(zdb ((B9 l).map hD)).length=l.length:=by unfold zdb;rw[Zc,Qb,Zc,zua]
 refine⟨zdb ((B9 l).map hD),lsS l r λ_=>.non,?_,bo_it E (zic (nodup T.hl) vB (by have:=T.fl;omega) T.zl),?_,λi d C=>?_,λK L t z _=>bo_sl,λh R P=>?_⟩
 ·rw[B];have:=T.fl;omega
 ·rw[B];unfold lsS;rw[Zc,Z7]
 ·have u:i<l.length:=by
   have:=(Zm.mp C).1
   rw[B] at this;exact this
  unfold zdb at C;rw[Zh,List.getElem?_zipIdx,Zh,zub u] at C;have w:D.tup [.int ((0+i:Nat):Int),hD (hS l i)]=d:=Zw C;rw[Yz] at w;obtain⟨M,S,U⟩:=zxc T i
  refine⟨.int (i:Int),hD (hS l i),fr (xS l r i),w.symm,?_,λt=>?_⟩
  ·unfold lsS;rw[zej u];rfl
  ·exact bo_le F G S U
 ·rw[B] at P |-;obtain⟨v,_⟩:∃a,h[0]? = some a:=⟨h[0]'vB,Zi _⟩
  have inj:∀i j,i<l.length->j<l.length->h.getD i v=h.getD j v->i=j:=λi j u V e=>zsp R vB vB e
  refine⟨λk=>osC (λi=>h.getD i v) (hS l) (xS l r) l.length (λi=>i) λi=>if i<k then clD (clJ (hS l) (xS l r) l.length (λi=>i) i) else .non,?_,?_,?_,λk O=>?_⟩
  ·unfold osC;rw[Ye,<-P];exact rng_getD
  ·unfold osC lsS;rw[Ye];exact Wb λi _=>by simp only[Function.comp,Nat.not_lt_zero,if_false]
  ·unfold osC lsS;rw[Ye];exact Wb λi u=>by simp only[Function.comp,Yw.mp u,if_true]
  ·refine⟨_,_,_,λK L t=>bo_s3 H ?_,zxl (A:=λi=>h.getD i v) (J:=λi=>i) (n:=l.length) (c:=λi=>if i<k then clD (clJ (hS l) (xS l r) l.length (λi=>i) i) else .non) T.hb T.sx k,yag _,zlh (J:=λi=>i) O,?_⟩
   ·rw[zpu];exact zgx (f:=λi=>bD (h.getD i v) ((i:Nat):Int) (hS l i) (xS l r i) (if i<k then clD (clJ (hS l) (xS l r) l.length (λi=>i) i) else .non)) O vB (.inl rfl)
   ·rw[zlg (A:=λi=>h.getD i v) (J:=λi=>i) O inj];refine znk λi u=>?_;by_cases e:i=k
    ·subst e;rw[if_pos rfl,if_pos (Wx _)]
    ·rw[if_neg e];by_cases Q:i<k
     ·rw[if_pos Q,if_pos vB]
     ·rw[if_neg Q,if_neg vB]
def ear_s0{d:Nat->Option (Int×Int)}{j:Nat}(h:d j=none):ear d (j+1)=ear d j:=by
 conv=>lhs;unfold ear
 rw[h]
def ear_s1{d:Nat->Option (Int×Int)}{j:Nat}{r:Int×Int}(h:d j=some r)(f:ear d j=none):ear d (j+1)=some j:=by
 conv=>lhs;unfold ear
 rw[h];simp only;rw[f]
def ear_s2{d:Nat->Option (Int×Int)}{j i:Nat}{r p:Int×Int}(h:d j=some r)(f:ear d j=some i)(g:d i=some p):ear d (j+1)=some (if r.1*p.2<p.1*r.2 then j else i):=by
 conv=>lhs;unfold ear
 rw[h];simp only;rw[f];simp only;rw[g]
def zog{L:List D}{n:Nat}{h:Nat->Option (Int×Int)}(K:L.length=n)(z:n<=1000)(A:∀i,i<n->∃a p s l,L[i]? = some (.obj a [.int p,s,l,clD (h i)]))(G:∀i q,h i=some q->0<q.2)
 (B:∀i q,h i=some q->q.1.natAbs<2^16000/\q.2.natAbs<2^16000):zbr [.lst L]=some (.val (fD (ear h n))):=by
 unfold zbr;generalize m:tab [(21,zbb)]=Γ;have C:Γ 21=zbb:=by rw[<-m];rfl
 obtain⟨M,e,E,v,rfl⟩:=zlr (bt:=zas (.name 2)) (fb:=exs Γ zmf) (I:=λk H=>∃E v,H=[~~~.lst L,~~~fD (ear h k),E,v]) n [~~~.lst L,~~~.non,none,none] ⟨none,none,rfl⟩ (λj H N ⟨E,v,e⟩=>by
  subst e;have bf:=zmg G j;obtain⟨a,p,s,l,g⟩:=A j N
  have o:=zkm g;refine⟨[~~~.lst L,~~~fD (ear h j),~~~.int (j:Int),v],?_⟩
  cases q:h j with
  |none=>
   rw[q] at o;refine⟨_,rfl,yfh (by cases ear h j<;>rfl) o,_,_,by rw[ear_s0 q]⟩
  |some r=>
   rw[q] at o;cases f:ear h j with
   |none=>exact⟨_,rfl,zzq o,_,_,by rw[ear_s1 q f];rfl⟩
   |some i=>
    rw[f] at bf;obtain⟨V,t,F,W⟩:=bf
    obtain⟨Y,Z,s',l',gi⟩:=A i vB
    have u:=zkm gi;rw[F] at u;obtain⟨O,P⟩:=B j r q
    obtain⟨Q,R⟩:=B i t F
    have S:=zkl (a:=r.1) (b:=r.2) (c:=t.1) (d:=t.2) (by unfold Bz;rw[decide_eq_true O,decide_eq_true R];rfl) (by unfold Bz;rw[decide_eq_true Q,decide_eq_true P];rfl);refine⟨_,rfl,yfi C o u S,~~~.int (j:Int),~~~.tup [.int r.1,.int r.2],?_⟩
    rw[ear_s2 q f F];by_cases w:r.1*t.2<t.1*r.2
    ·rw[decide_eq_true w,if_pos rfl,if_pos w];rfl
    ·rw[decide_eq_false w,if_neg vA,if_neg w];rfl)
 have J:lf (fD (ear h n))=true:=by cases ear h n<;>rfl
 generalize T:fD (ear h n)=X at *;have U:(L.length:Int)=(n:Int):=by rw[K]
 have r1 : -4611686018427387904<=(n:Int)/\(n:Int)<4611686018427387904:=⟨by omega,by omega⟩;have r2:((n:Int)).toNat=n:=Z9 n;unfold zdx;clear A G B T m z;walk_at "evh"
end
open Sf
open Mg Fi PySem
section
variable{Γ:Nat->∅}
section
variable{A:Nat->Addr}{h:Nat->H3}{x:Nat->Rat}{N n:Nat}{J:Nat->Nat}
def yia(d:∀i,Hb (h i))(f:∀i,Sz 2000 (x i))(g:n<=1000):zbr [.lst (dOs (osJ A h x n J))]=some (.val (fD (ear (clJ h x n J) n))):=by
 unfold osJ;rw[zpu];refine zog (by rw[Zc,Z7]) g (λi l=>⟨A (J i),(J i:Int),hD (h (J i)),fr (x (J i)),by rw[zej l];rfl⟩) (λi q e=>(zfh e).1) (λi q e=>?_);obtain⟨m,o⟩:=zte (d _) (d _) (d _) (f _) (f _) (f _) e
 exact⟨Zf m (Bx vA),Zf o (Bx vA)⟩
def yiu{c:Nat->D}{k:Nat}(d:k<n)(e:2<=n):zco [.lst (dOs (osC A h x n J c)),.int (k:Int)]=some (.val (.tup [bD (A (J (pv n k))) (J (pv n k):Int) (h (J (pv n k))) (x (J (pv n k))) (c (pv n k)),bD (A (J k)) (J k:Int) (h (J k)) (x (J k)) (c k),bD (A (J (nx n k))) (J (nx n k):Int) (h (J (nx n k))) (x (J (nx n k))) (c (nx n k))])):=by
 rw[zpu];exact zgx (f:=λi=>bD (A (J i)) (J i:Int) (h (J i)) (x (J i)) (c i)) d e (.inl rfl)
def ynn(d:∀i,Hb (h i)){k:Nat}(e:k<n)(f:2<=n):znq [.lst (dOs (osJ A h x n J)),.int (k:Int)]=some (.val (.bl (decide (0<=crI (h (J (nx n k))) (h (J (pv n k))))))):=
 yff (yiu e f) (zhq ((d _).hb vA) ((d _).hb vA) ((d _).hb vA))
end
def yhv{x y:Rat}(h:fr x=fr y):x=y:=by
 unfold fr at h;have d:x.num=y.num:=by injection h with h;injection h with h _;injection h
 have e:(x.den:Int)=(y.den:Int):=by injection h with h;injection h with _ h;injection h with h _;injection h
 exact Rat.ext d vB
def yjk{p q:V}(h:stD p=stD q):p=q:=by
 unfold stD at h;have d:fr p.1=fr q.1:=by injection h with h;injection h
 have e:fr p.2=fr q.2:=by injection h with h;injection h with _ h;injection h
 exact Yh (yhv d) (yhv e)
theorem zel:∀{l m:List V},l.map stD=m.map stD->l=m
 |[],[],_=>rfl
 |[],_::_,h=>by cases h
 |_::_,[],h=>by cases h
 |a::l,b::m,h=>by
  rw[Zx,Zx] at h;injection h with d e
  rw[yjk d,zel e]
end
open Sf
open Mg Fi PySem
section
variable{Γ:Nat->∅}
end
open Sf
open Mg Fi PySem
section
variable{Γ:Nat->∅}
end
open Sf
open Mg Fi PySem
section
variable{Γ:Nat->∅}
def cut_is{d:List Int}{k:Nat}(h:k<=d.length):cutD (d.map D.int) (some (k:Int)) none=(d.drop k).map D.int:=by
 rw[zlw (by rw[Zc];exact h),Jr]
def numP{x:Rat}(h:0<x):0<x.num:=by
 have:(0:Rat)<((x.num:Int):Rat):=by rw[znn];exact Zq h (zgf x)
 rw[show(0:Rat)=((0:Int):Rat) from rfl,Z6] at this;exact this
end
open Sf
open Mg Fi PySem
section
variable{Γ:Nat->∅}
theorem ygf:∀d w,zgi d=some w->zbb d=some w
 |[],w,h=>by cases h
 |[_],w,h=>by cases h
 |[a,b],w,h=>ydt [a,b] w rfl h
 |_::_::_::_,w,h=>by cases h
def ok_reachR(g:Γ 50=zee)(l:Γ 21=zbb):∀d w,d.length=3->zez d=some w->run Γ zjk 6 d=some w:=λd w _ h=>by
 have n:∀f d w,tab zgz f d=some w->Γ f d=some w:=λf d w q=>by
  by_cases e:f=50
  ·subst e;rw[g];exact q
  ·by_cases m:f=21
   ·subst m;rw[l];exact ygf d w q
   ·unfold zgz at q;rw[tab_s e,tab_s m] at q;cases q
 unfold zez run at h;unfold run;exact Bo (λo=>exs_le n zjk _ o vA) (λ_ _ z=>z) h
def ok_law_bows_k32:∀d w,d.length=1->zgt d=some w->run Γ zbe 5 d=some w:=zpv
def ok_law_ring_k31(d:Γ 105=zgt):∀e w,e.length=1->zey e=some w->run Γ zbd 7 e=some w:=znm d
def ok_law_shape_k31(e:Γ 46=zey)(d:Γ 103=zfb):∀f w,f.length=1->zft f=some w->run Γ zaz 10 f=some w:=zli e d
def ok_law_times_k31(d:Γ 103=zfb):∀e w,e.length=2->zdg e=some w->run Γ zbk 2 e=some w:=znl d
end
section
open L2
variable{P:Program}{w:World}{K:vE}{mg:Str->Option Value}{base:Heap}
theorem GSp.mono{j k:Nat}{x:Str}{sp:Sp}(G:GSp P w K mg base j x sp)(h:j<=k):GSp P w K mg base k x sp:=by
 obtain⟨a,d,ps,F,e,f,g⟩:=G
 exact⟨a,d,ps,F.mono h,e,f,g⟩
theorem MkB.mono{j k:Nat}(M:MkB P w K mg base j)(h:j<=k):MkB P w K mg base k:=by
 obtain⟨C,f,d,ps,e,g,l,m,n⟩:=M.ex
 exact⟨C,f,d,ps,e,g,l,m.mono h,n⟩
def atc_mk{h:Stmt}{C f:Addr}{m:Value}{n:Option Addr}{kV e o:Value}{p:Option Addr}{d ct:Value}{g:Array (Option Value)}(a:PySem.W.nsIn K mainGlobals "Bound" = some (some (.ref C)))(q:PySem.W.findIn K (.ref C) "__init__" = some (some (.ref f)))
 (r:PySem.W.plainGet K C Str.empty=true)(s:PySem.W.hasDictIn K C=true)(t:PySem.W.plainOver K C=true)(u:PySem.W.findIn K (.ref C) "__setattr__" = some (some (.builtin "object.__setattr__")))
 (v:PySem.W.findIn K (.ref C) "place" = some none)(w:PySem.W.findIn K (.ref C) "side" = some none)(z:PySem.W.findIn K (.ref C) "least" = some none)(A:PySem.W.findIn K (.ref C) "closing" = some none)
 (B:PySem.W.makesIn K C=true)(D:PySem.W.isFn K (.ref f)=true)(E:PySem.W.keepIn K (.ref C)=true)
 (l:K.lookup f=some ⟨m,n,.func (PySem.W.fnOf "__init__" "Bound.__init__" (zbj h) (Bq h) (Bn h) .none kV e o p d ct),g⟩)(c:PySem.W.codeIn K d "Bound.__init__" = true)(k:PySem.W.keepIn K (.ref f)=true):AtC K h:=
 ⟨C,f,m,n,kV,e,o,p,d,ct,g,a,⟨r,s,t,u⟩,⟨v,w,z,A⟩,⟨B,q,D,E⟩,l,c,k⟩
end
open Mg Fi Sf
theorem zwj{d:Type}{f g:d->Rat}:∀{S:List d},(∀e∈S,f e<=g e)->(S.map f).sum<=(S.map g).sum
 |[],_=>Wm
 |a::S,h=>by
  have i:=zwj (S:=S) λe l=>h e (.tail _ l)
  have j:=h a (.head _);simp only[Zx,Wd];grind
theorem zpg{d:Type}{f g:d->Rat}:∀{S:List d},(S.map λe=>f e+g e).sum=(S.map f).sum+(S.map g).sum
 |[]=>by simp only[Wh,Ko];grind
 |a::S=>by
  have i:=zpg (f:=f) (g:=g) (S:=S);simp only[Zx,Wd];grind
theorem zkt{d:Type}{f:d->Rat}{k:Rat}:∀{S:List d},(S.map λe=>k*f e).sum=k*(S.map f).sum
 |[]=>by simp only[Wh,Ko];grind
 |a::S=>by
  have i:=zkt (f:=f) (k:=k) (S:=S);simp only[Zx,Wd];grind
theorem zhb{d:Type}{f:d->Int}:∀{S:List d},(((S.map f).sum:Int):Rat)=(S.map λe=>((f e:Int):Rat)).sum
 |[]=>rfl
 |a::S=>by
  have i:=zhb (f:=f) (S:=S);simp only[Zx,Wd,Jb,i]
section
variable{h:Nat->H3}{x:Nat->Rat}{N:Nat}{t:Rat}{S:List (Int×Int)}
def Cert.zero(C:Cert h x N t S)(u:V):(S.map λe=>(e.2:Rat)*xr (wy (h e.1.toNat)) u).sum=0:=by
 have a:(S.map λe=>((e.2*(h e.1.toNat).1:Int):Rat)).sum=0:=by rw[<-zhb,C.sa];rfl
 have b:(S.map λe=>((e.2*(h e.1.toNat).2.1:Int):Rat)).sum=0:=by rw[<-zhb,C.sb];rfl
 have e:(S.map λe=>(e.2:Rat)*xr (wy (h e.1.toNat)) u)=S.map λe=>u.1*((e.2*(h e.1.toNat).1:Int):Rat)+u.2*((e.2*(h e.1.toNat).2.1:Int):Rat):=
  Wb λe _=>by rw[zmn,Z4,Z4];grind
 rw[e,zpg,zkt,zkt,a,b];grind
def Cert.sc'(C:Cert h x N t S):(S.map λe=>(e.2:Rat)*((h e.1.toNat).2.2:Rat)).sum=t*(S.map λe=>(e.2:Rat)*x e.1.toNat).sum:=by
 have:=C.sc
 rw[zhb] at this;rw[<-this];exact congrArg List.sum (Wb λe _=>by rw[Z4])
def Cert.w(C:Cert h x N t S){e:Int×Int}(d:e∈S):(0:Rat)<(e.2:Rat)/\e.1.toNat<N:=by
 obtain⟨j,f,g,l,_⟩:=C.ok e d
 refine⟨?_,by rw[f,Z9];exact g⟩
 rw[show(0:Rat)=((0:Int):Rat) from rfl,Z6];omega
def Cert.ne(C:Cert h x N t S):S≠[]:=λz=>by rcases C.len with y|y<;>rw[z] at y<;>cases y
def Cert.neg(C:Cert h x N t S){P:List V}(g:∀j,j<N->∀q∈P,((h j).2.2:Rat)<=xr (wy (h j)) q)(l:∀j,j<N->∃q∈P,((h j).2.2:Rat)<xr (wy (h j)) q):(S.map λe=>(e.2:Rat)*((h e.1.toNat).2.2:Rat)).sum<0:=by
 match S,C with
 |[],C=>exact absurd rfl C.ne
 |e::S,C=>
  obtain⟨m,n⟩:=C.w (e:=e) (.head _)
  obtain⟨q,o,p⟩:=l _ n
  have z:=C.zero q;have s:(S.map λe=>(e.2:Rat)*((h e.1.toNat).2.2:Rat)).sum<=(S.map λe=>(e.2:Rat)*xr (wy (h e.1.toNat)) q).sum:=zwj λd f=>by
   obtain⟨r,l1⟩:=C.w (e:=d) (.tail _ f)
   have:=Zn (Zy r) (show 0<=xr (wy (h d.1.toNat)) q-((h d.1.toNat).2.2:Rat) by have:=g _ l1 q o;grind)
   grind
  have lt:=Zq m (show 0<xr (wy (h e.1.toNat)) q-((h e.1.toNat).2.2:Rat) by grind);simp only[Zx,Wd] at z |-;grind
def Cert.max(C:Cert h x N t S)(f:0<t){P:List V}(g:∀j,j<N->∀q∈P,((h j).2.2:Rat)<=xr (wy (h j)) q)(l:∀j,j<N->∃q∈P,((h j).2.2:Rat)<xr (wy (h j)) q){s:Rat}{u:V}
 (m:∀j,j<N->((h j).2.2:Rat)<=s*x j+xr (wy (h j)) u):s<=t:=by
 have ng:=C.neg g l;have sc:=C.sc';have z:=C.zero u;have d:(S.map λe=>(e.2:Rat)*((h e.1.toNat).2.2:Rat)).sum<=(S.map λe=>s*((e.2:Rat)*x e.1.toNat)+(e.2:Rat)*xr (wy (h e.1.toNat)) u).sum:=zwj λe n=>by
  obtain⟨o,l1⟩:=C.w n
  have:=Zn (Zy o) (show 0<=s*x e.1.toNat+xr (wy (h e.1.toNat)) u-((h e.1.toNat).2.2:Rat) by have:=m _ l1;grind)
  grind
 rw[zpg,zkt,z] at d;rw[sc] at d ng;generalize (S.map λe=>(e.2:Rat)*x e.1.toNat).sum=X at *;have p:X<0:=by
  by_cases y:X<0
  ·exact y
  ·have:=Zn (Zy f) (show 0<=X by grind)
   grind
 by_cases y:s<=t
 ·exact y
 ·have:=Zq (show 0<s-t by grind) (show 0 < -X by grind)
  grind
end
open Mg Fi Sf
def InS(l:List V)(y:V):Prop:=∀j,j<l.length->(((hS l j).2.2:Int):Rat)<=xr (wy (hS l j)) y
def sp(s:Rat)(u q:V):V:=(s*q.1+u.1,s*q.2+u.2)
def zow{d:V}{s:Rat}{u q:V}:xr d (sp s u q)=s*xr d q+xr d u:=by unfold xr sp;grind
def yha{l:List V}{q:V}(h:q∈l):∃i,i<l.length/\rnd l i=q:=by
 obtain⟨i,d,e⟩:=Qr h
 refine⟨i,d,?_⟩
 unfold rnd;rw[Zj d,Z1,Zi d,<-e];rfl
def zfg{l:List V}(d:IsShp l){q:V}(h:q∈l):InS l q:=λj f=>by
 obtain⟨i,_,e⟩:=yha h
 rw[<-e];exact(zmz d).corner i f
def yjp{l:List V}(d:IsShp l)(j:Nat):(((hS l j).2.2:Int):Rat)=xr (wy (hS l j)) (rnd l j):=by
 obtain⟨k,_,_,e⟩:=zdt d j
 exact e
def in_off{l:List V}(d:IsShp l){j:Nat}(f:j<l.length):∃q∈l,(((hS l j).2.2:Int):Rat)<xr (wy (hS l j)) q:=by
 obtain⟨m,g,e⟩:=(zmz d).way j f
 have:=Zq g ((zcs d (nodup d)).turn j)
 refine⟨rnd l (j+2),B8 vB _,?_⟩
 have e:wy (hS l j)=sm m (ed (rnd l) j):=e;rw[yjp d,e,zep,zep];have h:xr (mn (rnd l (j+1)) (rnd l j)) (mn (rnd l (j+2)) (rnd l (j+1)))=xr (ed (rnd l) j) (rnd l (j+2))-xr (ed (rnd l) j) (rnd l j):=by unfold ed mn xr;grind
 rw[h] at this;grind
theorem ybi{f:Nat->Rat}:∀n,0<n->∃i,i<n/\∀j,j<n->f i<=f j
 |0,h=>absurd h (Wq 0)
 |1,_=>⟨0,by omega,λj d=>by rw[show j=0 by omega];exact Wm⟩
 |n+2,_=>by
  obtain⟨i,g,h⟩:=ybi (f:=f) (n+1) vB
  by_cases c:f i<=f (n+1)
  ·refine⟨i,by omega,λj d=>?_⟩
   by_cases e:j=n+1
   ·rw[e];exact c
   ·exact h j vB
  ·refine⟨n+1,by omega,λj d=>?_⟩
   by_cases e:j=n+1
   ·rw[e];exact Wm
   ·have:=h j vB;grind
def zsm{l:List V}(g:IsShp l){y:V}(h:InS l y)(d:V):∃q∈l,xr d q<=xr d y:=by
 have n:=g.three;have P:=zcs g (nodup g);obtain⟨i,J,s⟩:=ybi (f:=λi=>xr d (rnd l i)) l.length vB
 refine⟨rnd l i,B8 vB _,?_⟩
 have all:∀k,xr d (rnd l i)<=xr d (rnd l k):=λk=>by
  have:=s (k%l.length) (Wp _ vB)
  have e:rnd l (k%l.length)=rnd l k:=by unfold rnd;rw[Vq]
  rw[e] at this;exact this
 have o:∀j,0<=xr (ed (rnd l) j) (mn y (rnd l j)):=λj=>by
  have u:j%l.length<l.length:=Wp _ vB;obtain⟨m,v,w,z⟩:=zdt g (j%l.length)
  have:=h _ u
  rw[z,w,zep,zep] at this;have p:rnd l (j%l.length)=rnd l j:=by unfold rnd;rw[Vq]
  have D:rnd l (j%l.length+1)=rnd l (j+1):=by unfold rnd;rw[Wt]
  have E:ed (rnd l) (j%l.length)=ed (rnd l) j:=by unfold ed;rw[p,D]
  rw[E,p] at this;have F:xr (ed (rnd l) j) (mn y (rnd l j))=xr (ed (rnd l) j) y-xr (ed (rnd l) j) (rnd l j):=by unfold xr mn;grind
  rw[F];exact zad v (by grind)
 have r:rnd l (i+l.length)=rnd l i:=P.per i;have a:=o i;have b:=o (i+l.length-1);have t:=P.turn (i+l.length-1);have K:=all (i+1);have L:=all (i+l.length-1);rw[show i+l.length-1+1=i+l.length by omega,show i+l.length-1+2=i+1+l.length by omega,r,P.per (i+1)] at t;have G:ed (rnd l) (i+l.length-1)=mn (rnd l i) (rnd l (i+l.length-1)):=by unfold ed;rw[show i+l.length-1+1=i+l.length by omega,r]
 rw[G] at b;have H:ed (rnd l) i=mn (rnd l (i+1)) (rnd l i):=rfl;rw[H] at a;generalize rnd l (i+1)=A at *;generalize rnd l (i+l.length-1)=B at *;generalize rnd l i=C at *;have key:xr (mn C B) (mn A C)*(xr d y-xr d C)=xr (mn C B) (mn y C)*(xr d A-xr d C)+xr (mn A C) (mn y C)*(xr d B-xr d C):=by unfold xr mn;grind
 have I:0<=xr (mn C B) (mn y C):=by
  have:xr (mn C B) (mn y B)=xr (mn C B) (mn y C):=by unfold xr mn;grind
  rw[<-this];exact b
 have M:=Zn I (show 0<=xr d A-xr d C by grind);have N:=Zn a (show 0<=xr d B-xr d C by grind);have:0<=xr d y-xr d C:=zad t (by rw[U3];grind)
 grind
open Mg Fi Sf
open Mg Fi Sf
open Sf
open Mg Fi PySem
section
variable{Γ:Nat->∅}
end
open Sf
open Mg Fi PySem
section
variable{Γ:Nat->∅}
end
open Mg Fi Sf
section
variable{h:Nat->H3}{x:Nat->Rat}{N:Nat}
def finP(h:Nat->H3)(x:Nat->Rat):Nat->Nat->(Nat->Nat)->Bool×Nat×(Nat->Nat)×Nat
 |0,n,J=>(false,n,J,0)
 |m+1,n,J=>let k:=(ear (clJ h x n J) n).getD 0
  let p:=(clJ h x n J k).getD (0,1)
  if p.1<p.2 then(if 0<=crI (h (J (nx n k))) (h (J (pv n k))) then(true,n,J,k) else finP h x m (n-1) λi=>J (er k i)) else(false,n,J,k)
structure PuE(h:Nat->H3)(x:Nat->Rat)(N n:Nat)(J:Nat->Nat):Prop where
 ok:Ok (λi=>wy (h (J i))) (λi=>((h (J i)).2.2:Rat)) (λi=>x (J i)) n 1
 mono:∀i k,i<k->k<n->J i<J k
 lt:∀i,i<n->J i<N
 back:∀y,(∀i,i<n->((h (J i)).2.2:Rat)-1*x (J i)<=xr (wy (h (J i))) y)->∀j,j<N->((h j).2.2:Rat)-1*x j<=xr (wy (h j)) y
def PuS(h:Nat->H3)(x:Nat->Rat)(N:Nat)(b:Bool)(n:Nat)(J:Nat->Nat)(k:Nat):Prop:=if b=true then ∃p,FinS h x N n J k p/\fac p<1 else PuE h x N n J
def yhw{p:Int×Int}(h:0<p.2):p.1<p.2↔fac p<1:=by
 have e:=zqi h;have d:(0:Rat)<(p.2:Rat):=by rw[show(0:Rat)=((0:Int):Rat) from rfl,Z6];exact h
 rw[<-Z6,<-e];constructor
 ·intro z;by_cases c:fac p<1
  ·exact c
  ·have:=Zn (show 0<=fac p-1 by grind) (Zy d)
   grind
 ·intro z;have:=Zq (show 0<1-fac p by grind) d
  grind
theorem zzn{v g:V}(l:v≠g)(o:∀j,j<N->x j<=xr (wy (h j)) v)(q:∀j,j<N->x j<=xr (wy (h j)) g):∀(m n:Nat) (J:Nat->Nat) (t:Rat),n<=m->t<=1->Lst h x N n J t->PuS h x N (finP h x m n J).1 (finP h x m n J).2.1 (finP h x m n J).2.2.1 (finP h x m n J).2.2.2
 |0,n,J,t,u,r,L=>by have:=L.ok.three;omega
 |m+1,n,J,t,u,r,L=>by
  obtain⟨k,p,X⟩:=L.next l o q
  unfold finP;simp only[X.ear,X.cl,Kz];by_cases d:p.1<p.2
  ·rw[if_pos d];have e:=(yhw X.pos).mp d;by_cases f:0<=crI (h (J (nx n k))) (h (J (pv n k)))
   ·rw[if_pos f];show PuS h x N true n J k;unfold PuS;rw[if_pos rfl];exact⟨p,X.finS L f,e⟩
   ·rw[if_neg f];obtain⟨L2,B⟩:=X.drop L vB
    exact zzn l o q m (n-1) _ _ vB (Zy e) L2
  ·rw[if_neg d];have e:1<=fac p:=by
    have:=λz=>d ((yhw X.pos).mpr z)
    grind
   show PuS h x N false n J k;unfold PuS;rw[if_neg vA];refine⟨⟨L.ok.three,L.ok.srt,L.ok.bend,λi s=>?_⟩,L.mono,L.lt,λy w=>L.back 1 y r w⟩
   have a:=L.ok.lens i s;have b:=X.ok.lens i s;rw[zzh] at a b |-;generalize tp (λi=>wy (h (J i))) (λi=>x (J i)) n i=A at *;generalize tp (λi=>wy (h (J i))) (λi=>((h (J i)).2.2:Rat)) n i=C at *;by_cases z:0<=A
   ·have:=Zn (show 0<=fac p-1 by grind) z
    grind
   ·have:=Zn (show 0<=1-t by grind) (show 0 <= -A by grind)
    grind
end
open Mg Fi Sf
open Sf
open Mg Fi PySem
section
variable{Γ:Nat->∅}
def ymd{r:List V}{h:H3}(g:0<r.length)(b:Hb h)(d:SyL 600 600 r):Sy 1292 1202 (lwS r h):=by
 obtain⟨_,q,f,e⟩:=zdi g h
 rw[e,zmn];exact((syI b.a).mul (d q f).1).add ((syI b.b).mul (d q f).2) (k:=1291) vA vA
def Bd2.sy{l r:List V}(T:Bd2 l r)(i:Nat):Sy 1292 1202 (xS l r i):=ymd T.pr (T.hb i) T.zr
def zqa{a u:PySem.Addr}{p v:Int}{h d:H3}{x g:Rat}{w m:D}(b:Hb h)(l:Hb d)(z:Sy 1292 1202 x)(A:Sy 1292 1202 g)(N:crI h d≠0):
  zcf [bD a p h x w,bD u v d g m,fr 1]=some (.val (stD (Fi.mt (wy h) (wy d) ((h.2.2:Rat)-1*x) ((d.2.2:Rat)-1*g)))):=by
 have one:Sz 1 (1:Rat):=⟨by decide,by decide⟩;have O:Sz 150 (h.2.2:Rat):=zeb b.c vA;have P:Sz 150 (d.2.2:Rat):=zeb l.c vA;have B:Sz 1292 x:=z.sz vA vA;have n:Sz 1292 g:=A.sz vA vA;have C:Sy 90 1 (h.1:Rat):=syI b.a;have E:Sy 90 1 (d.1:Rat):=syI l.a;have F:Sy 90 1 (h.2.1:Rat):=syI b.b;have G:Sy 90 1 (d.2.1:Rat):=syI l.b;have Q:=zsw (a:=a) (p:=p) (cl:=w) O one B vA vA vA ((one.mul B).mono vA);have R:=zsw (a:=u) (p:=v) (cl:=m) P one n vA vA vA ((one.mul n).mono vA);have s:Sy 1353 1203 ((h.2.2:Rat)-1*x):=by rw[Ja];exact(syI b.c).sub z (k:=1352) vA vA
 have t:Sy 1353 1203 ((d.2.2:Rat)-1*g):=by rw[Ja];exact(syI l.c).sub A (k:=1352) vA vA
 have H:Sz 181 ((crI h d:Int):Rat):=zeb (zcg b l) vA;have I:((crI h d:Int):Rat)≠0:=λy=>N (W3.mp y)
 have em:Fi.mt (wy h) (wy d) ((h.2.2:Rat)-1*x) ((d.2.2:Rat)-1*g)=(((d.2.1:Rat)*((h.2.2:Rat)-1*x)-(h.2.1:Rat)*((d.2.2:Rat)-1*g))/(crI h d:Rat),((h.1:Rat)*((d.2.2:Rat)-1*g)-(d.1:Rat)*((h.2.2:Rat)-1*x))/(crI h d:Rat)):=by
  unfold Fi.mt;rw[zdy,Kn,Kn];unfold wy;exact Yh (by dsimp only;grind) (by dsimp only;grind)
 rw[em];unfold zcf;generalize e:tab [(10,zav),(11,zae),(20,zlk),(81,zbm),(99,zit)]=Γ;clear em;generalize S:(h.2.2:Rat)-1*x=o at *;generalize T:(d.2.2:Rat)-1*g=q at *;have J:=G.mul s;have K:=F.mul t;have L:=C.mul t;have M:=E.mul s;have U:Sz 2700 ((d.2.1:Rat)*o-(h.2.1:Rat)*q):=(J.sub K (k:=2647) vA vA).sz vA vA;have V:Sz 2700 ((h.1:Rat)*q-(d.1:Rat)*o):=(L.sub M (k:=2647) vA vA).sz vA vA;have f:∀{a b:Nat}{y:Rat},Sy a b y->a<=4400->b<=4400->Sz 4400 y:=λW Z hb=>W.sz Z hb
 refine zpz (h10:=by rw[<-e];rfl) (h11:=by rw[<-e];rfl) (h20:=by rw[<-e];rfl) (h81:=by rw[<-e];rfl) (h99:=by rw[<-e];rfl) (E1:=fr o) (E2:=fr q) (r:=crI h d) rfl rfl (X:=fr ((d.2.1:Rat)*o-(h.2.1:Rat)*q)) (Y:=fr ((h.1:Rat)*q-(d.1:Rat)*o)) rfl rfl Q R (zdk (b.hb vA) (l.hb vA))
  (zal (x:=(d.2.1:Rat)) (zaa (f G vA vA) (f s vA vA) vA vA)) (zal (x:=(h.2.1:Rat)) (zaa (f F vA vA) (f t vA vA) vA vA)) (zal (zaa (f J vA vA) (f K vA vA) vA vA))
  (zal (x:=(h.1:Rat)) (zaa (f C vA vA) (f t vA vA) vA vA)) (zal (x:=(d.1:Rat)) (zaa (f E vA vA) (f s vA vA) vA vA)) (zal (zaa (f L vA vA) (f M vA vA) vA vA))
  (zal (y:=((crI h d:Int):Rat)) ?_) (zal (y:=((crI h d:Int):Rat)) ?_)
 ·rw[zaa U H vA vA,decide_eq_true I];rfl
 ·rw[zaa V H vA vA,decide_eq_true I];rfl
def zdf:∅:=run (tab [(98,zcf)]) zca 2
def ok_meetings(e:Γ 98=zcf):∀d w,d.length=2->zdf d=some w->run Γ zca 2 d=some w:=λd w _ h=>zcb [(98,zcf)] (λp f=>by
 simp only[Zg,Zu,or_false] at f;subst f;exact e) vA d w h
def yea{d:∅}(e:Γ 98=d){L:List D}{T A B M:D}{k:Int}(f:lf M=true)(g:L2.atI L (k-1)=some A)(h:L2.atI L k=some B)(q:d [A,B,T]=some (.val M)):
  zty Γ (.call 98 #v[.ix (.var 2) (.bin .sub (.var 1) (.int 1)),.ix (.var 2) (.var 1),.var 3]) (.name 1) 2 [0,1] .non [some (.lst L),some T] (.int k)=some (some M):=by
 walk_at "evh"
def ylx{L R:List D}{T:D}(c:ev Γ (.comp (.call 98 #v[.ix (.var 2) (.bin .sub (.var 1) (.int 1)),.ix (.var 2) (.var 1),.var 3]) (.name 1) (.range1 (.bi .len #v[.var 0])) 2 [0,1] .non) [some (.lst L),some T]=some (.new R)):run Γ zca 2 [.lst L,T]=some (.new R):=by
 unfold zca;walk_at "evh"
def ew_len{L:List D}{T:D}{n:Nat}(d:(L.length:Int)=(n:Int))(f:n<=1000):evW Γ (.range1 (.bi .len #v[.var 0])) [some (.lst L),some T]=some (zao 0 n):=by
 have e:evd Γ (.bi .len #v[.var 0]) [some (.lst L),some T]=some (.int (n:Int)):=by walk_at "evh"
 rw[evW_range1,e,Yg,yaa,Yg,if_pos ⟨by omega,by omega⟩,Z9]
def rngD{n:Nat}:zao 0 n=(List.range n).map λ(k:Nat)=>D.int (k:Int):=by
 have:=zxe n
 rw[Z9] at this;rw[this];exact Wb λk _=>by rw[Vc]
def zyi{e:∅}(d:Γ 98=e){f:Nat->D}{g:Nat->V}{n k:Nat}{T:D}(h:k<n)(q:e [f (pv n k),f k,T]=some (.val (stD (g k)))):
  zty Γ (.call 98 #v[.ix (.var 2) (.bin .sub (.var 1) (.int 1)),.ix (.var 2) (.var 1),.var 3]) (.name 1) 2 [0,1] .non [some (.lst ((List.range n).map f)),some T] (.int (k:Int))=some (some (stD (g k))):=by
 refine yea d rfl (zkf (zda h) ?_) (zkf h (.inl rfl)) q;unfold pv;split<;>omega
def ylz{e:∅}(d:Γ 98=e){f:Nat->D}{g:Nat->V}{n:Nat}{T:D}(m:n<=1000)(q:∀i,i<n->e [f (pv n i),f i,T]=some (.val (stD (g i)))):run Γ zca 2 [.lst ((List.range n).map f),T]=some (.new ((List.range n).map λk=>stD (g k))):=by
 refine ylx ?_;have o:((List.range n).map λ(k:Nat)=>D.int (k:Int)).length<=PySem.sizeLine:=by
  have:(1000:Nat)<=PySem.sizeLine:=by decide
  rw[Zc,Z7];omega
 rw[zql,ew_len (n:=n) (by rw[Zc,Z7]) m,rngD,Yg,if_pos ⟨o,rfl⟩,zjb (h:=λk=>stD (g k)) (λk l=>zyi d (Yw.mp l) (q k (Yw.mp l)))];rfl
def yly{f:Nat->D}{g:Nat->V}{n:Nat}{T:D}(d:n<=1000)(q:∀i,i<n->zcf [f (pv n i),f i,T]=some (.val (stD (g i)))):zdf [.lst ((List.range n).map f),T]=some (.new (((List.range n).map g).map stD)):=by
 rw[Ye];exact ylz tab_0 d q
end
open Sf
open Mg Fi PySem
section
variable{Γ:Nat->∅}
def ydd{d e:D}{f:Option D}{g:List (Addr×List D)}:rhoB (rF d e f 1) 2 g=[some d,some e,some (.lst (dOs g)),f,none]:=rfl
def zxj{d:∅}(e:Γ 95=d){f g:D}{l:Option D}{L:List D}{k:D}(h:d [.lst L]=some (.val k)):ev Γ o_pushes.1 [some f,some g,some (.lst L),l,none]=some (.val k):=by
 unfold o_pushes;dsimp only;walk_at "evh"
def ykq{e:∅}(f:Γ 21=e){g l:D}{k:Int}{L:List D}{A:Addr}{P S X C:D}{b:Bool}(a:L2.atI L k=some (.obj A [P,S,X,C]))(h:e [C,.tup [.int 1,.int 1]]=some (.val (.bl b))):((ev Γ o_pushes.2.1 [some g,some l,some (.lst L),some (.int k),none]).map W.d).bind zbg=some b:=by
 unfold o_pushes;dsimp only;walk_at "evh"
def ykr{e:∅}(f:Γ 96=e){g l:D}{k:Int}{L:List D}{b:Bool}(h:e [.lst L,.int k]=some (.val (.bl b))):((ev Γ o_pushes.2.2.1 [some g,some l,some (.lst L),some (.int k),none]).map W.d).bind zbg=some b:=by
 unfold o_pushes;dsimp only;walk_at "evh"
abbrev ynz:E:=(.comp (.var 2) (.tup [1,2]) (.enum (.var 4)) 3 [4] (.som (.cmp .notin (.var 2) (.sl (.var 3) .non (.som (.var 1))))))
def zxi{d:∅}(e:Γ 100=d){f g:D}{L R O:List D}{k:Int}(q:d [.lst L,.tup [.int 1,.int 1]]=some (.new R))(h:lfL R=true)(c:ev Γ ynz [some f,some g,some (.lst L),some (.int k),some (.lst R)]=some (.new O)):
  exs Γ o_pushes.2.2.2 [~~~f,~~~g,~~~.lst L,~~~.int k,none]=some (.rt (.new O)):=by
 unfold ynz at c;unfold o_pushes;dsimp only;walk_at "evh"
def ddL(l:List V):List V:=(l.zipIdx.filter λp=>decide (p.1∉l.take p.2)).map (·.1)
def ydw(q:V)(l:List V):cmpD .notin (stD q) (.lst (l.map stD))=some (decide (q∉l)):=by
 rw[yie,if_pos (by rw[zoi l];rfl)];congr 1
 rw[List.any_map];by_cases h:q∈l
 ·rw[decide_eq_false (λz=>z h)];have:l.any ((λy=>eqD y (stD q)) ∘ stD)=true:=Bk.mpr ⟨q,h,zlu 50 _ rfl⟩
  rw[this];rfl
 ·rw[decide_eq_true h];have:l.any ((λy=>eqD y (stD q)) ∘ stD)=false:=by
   rw[U1];intro z;obtain⟨y,d,e⟩:=Bk.mp z
   exact h (ygy e ▸ d)
  rw[this];rfl
theorem zoj{d:Type}{f:D->Option (Option D)}{g h:d->D}{p:d->Bool}:∀{l:List d},(∀x∈l,f (g x)=some (if p x=true then some (h x) else none))->zcp f (l.map g)=some ((l.filter p).map h)
 |[],_=>rfl
 |x::l,e=>by
  rw[Zx];unfold zcp;rw[e x (.head _),zoj λy m=>e y (.tail _ m)];by_cases q:p x=true
  ·rw[if_pos q,List.filter_cons_of_pos q];rfl
  ·rw[if_neg q,List.filter_cons_of_neg q]
def ynr{d e f g:Option D}{L:List D}{S:D}{i:Int}{C:List D}{b:Bool}(h:lf S=true)(ct:cutD L none (some i)=C)(l:cmpD .notin S (.lst C)=some b):
  zty Γ (.var 2) (.tup [1,2]) 3 [4] (.som (.cmp .notin (.var 2) (.sl (.var 3) .non (.som (.var 1))))) [d,e,f,g,some (.lst L)] (.tup [.int i,S])=some (if b=true then some S else none):=by
 cases b
 ·walk_at "evh"
 ·walk_at "evh"
def dd_int{d f g m:Option D}{l:List V}(s:l.length<=1000):ev Γ ynz [d,f,g,m,some (.lst (l.map stD))]=some (.new ((ddL l).map stD)):=by
 have e:evW Γ (.enum (.var 4)) [d,f,g,m,some (.lst (l.map stD))]=some (l.zipIdx.map λp=>D.tup [.int (p.2:Int),stD p.1]):=by
  have:evW Γ (.enum (.var 4)) [d,f,g,m,some (.lst (l.map stD))]=some (zdb (l.map stD)):=by simp only[evW,ev];rfl
  rw[this];unfold zdb;rw[List.zipIdx_map,Ye];rfl
 have o:(l.zipIdx.map λp=>D.tup [.int (p.2:Int),stD p.1]).length<=PySem.sizeLine:=by
  have:(1000:Nat)<=PySem.sizeLine:=by decide
  rw[Zc,Qb];omega
 rw[zql,e,Yg,if_pos ⟨o,rfl⟩,zoj (p:=λp=>decide (p.1∉l.take p.2)) (h:=λp=>stD p.1) (λp q=>?_)]
 ·unfold ddL;rw[Ye];rfl
 ·have n:p.2<=(l.map stD).length:=by
   obtain⟨i,n,e⟩:=Qr q
   rw[Qb] at n;rw[<-e,Uj,Zc];simp only
   omega
  have r:cutD (l.map stD) none (some (p.2:Int))=(l.take p.2).map stD:=by
   rw[cutTo n,V8]
  exact ynr rfl r (ydw _ _)
section
variable{A:Nat->Addr}{h:Nat->H3}{x:Nat->Rat}{N n:Nat}{J:Nat->Nat}
theorem zne(w:Γ 95=zbr)(B:Γ 96=znq)(C:Γ 21=zbb)(q:∀i,Hb (h i))(u:∀i,Sz 2000 (x i)){v R:V}(S:v≠R)(U:∀j,j<N->x j<=xr (wy (h j)) v)(E:∀j,j<N->x j<=xr (wy (h j)) R){d0 d1:D}:∀(m n:Nat) (J:Nat->Nat) (t:Rat),n<=m->n<=1000->Lst h x N n J t->(∀i j,i<n->j<n->A (J i)=A (J j)->i=j) ->
  ∃(g:Nat->List (Addr×List D)) (r:Nat->Int) (T:Nat),g 0=osJ A h x n J/\r 0=(((ear (clJ h x n J) n).getD 0:Nat):Int)/\Lps Γ Tht d0 d1 1 o_pushes.1 g r T/\(∀j,j<=T->((ev Γ o_pushes.2.1 (rhoB (rF d0 d1 (some (.int (r j))) 1) 2 (g j))).map W.d).bind zbg=some (decide (j<T) || (finP h x m n J).1)) /\
   (∀j,j<=T->(j<T\/(finP h x m n J).1=true)->((ev Γ o_pushes.2.2.1 (rhoB (rF d0 d1 (some (.int (r j))) 1) 2 (g j))).map W.d).bind zbg=some (!decide (j<T))) /\
   g T=osJ A h x (finP h x m n J).2.1 (finP h x m n J).2.2.1/\r T=((finP h x m n J).2.2.2:Int)
 |0,n,J,t,hm,K,L,inj=>by have:=L.ok.three;omega
 |m+1,n,J,t,hm,K,L,inj=>by
  obtain⟨k,p,X⟩:=L.next S U E
  have n3:=L.ok.three;obtain⟨z1,z2⟩:=zte (q _) (q _) (q _) (u _) (u _) (u _) X.cl
  have M:∀o,ev Γ o_pushes.1 (rhoB (rF d0 d1 o 1) 2 (osJ A h x n J))=some (.val (.int (k:Int))):=λo=>by
   have:=yia (A:=A) (J:=J) q u K
   rw[X.ear] at this;rw[ydd];exact zxj w this
  have O:L2.atI (dOs (osJ A h x n J)) (k:Int)=some (.obj (A (J k)) [.int (J k:Int),hD (h (J k)),fr (x (J k)),.tup [.int p.1,.int p.2]]):=by
   unfold osJ;rw[zpu,zkf (f:=λi=>bD (A (J i)) (J i:Int) (h (J i)) (x (J i)) (clD (clJ h x n J i))) X.lt (.inl rfl),X.cl];rfl
  have Y:=zkl (a:=p.1) (b:=p.2) (c:=1) (d:=1) (Bu z1 (show(1:Int).natAbs<2^1 by decide) vA vA) (Bu (show(1:Int).natAbs<2^1 by decide) z2 vA vA);rw[Up,Vs] at Y;have F:((ev Γ o_pushes.2.1 (rhoB (rF d0 d1 (some (.int (k:Int))) 1) 2 (osJ A h x n J))).map W.d).bind zbg=some (decide (p.1<p.2)):=by
   rw[ydd];exact ykq C O Y
  have ee:((ev Γ o_pushes.2.2.1 (rhoB (rF d0 d1 (some (.int (k:Int))) 1) 2 (osJ A h x n J))).map W.d).bind zbg=some (decide (0<=crI (h (J (nx n k))) (h (J (pv n k))))):=by
   rw[ydd];exact ykr B (ynn (A:=A) (J:=J) (x:=x) q X.lt vB)
  unfold finP;simp only[X.ear,X.cl,Kz];by_cases H:p.1<p.2
  ·rw[if_pos H];rw[decide_eq_true H] at F;by_cases I:0<=crI (h (J (nx n k))) (h (J (pv n k)))
   ·rw[if_pos I];rw[decide_eq_true I] at ee;refine⟨λ_=>osJ A h x n J,λ_=>(k:Int),0,rfl,rfl,⟨λ_ _ o=>M o,λj l=>by omega,λj l=>by omega⟩,λj l=>?_,λj l _=>?_,rfl,rfl⟩
    ·have:j=0:=by omega
     subst this;exact F
    ·have:j=0:=by omega
     subst this;exact ee
   ·rw[if_neg I];rw[decide_eq_false I] at ee;obtain⟨L2,n4⟩:=X.drop L vB
    have G:∀i j,i<n-1->j<n-1->A (J (er k i))=A (J (er k j))->i=j:=λi j P l e=>by
     have:=inj _ _ (zen X.lt P) (zen X.lt l) e
     unfold er at this;split at this<;>split at this<;>omega
    obtain⟨g,r,T,Z,k0,lp,ts,es,oT,kT⟩:=zne w B C q u S U E (d0:=d0) (d1:=d1) m (n-1) (λi=>J (er k i)) _ vB vB L2 G
    refine⟨λj=>match j with|0=>osJ A h x n J|j+1=>g j,λj=>match j with|0=>(k:Int)|j+1=>r j,T+1,rfl,rfl,⟨λj l o=>?_,λj l=>?_,λj l a s=>?_⟩,λj l=>?_,λj l Q=>?_,oT,kT⟩
    ·cases j with
     |zero=>exact M o
     |succ j=>exact lp.ke j vB o
    ·cases j with
     |zero=>
      show Tht (osJ A h x n J) (k:Int) (g 0);rw[Z];exact⟨A,h,x,n,J,k,q,u,n3,K,X.lt,inj,rfl,rfl,rfl⟩
     |succ j=>exact lp.th j vB
    ·cases j with
     |zero=>
      have s:a∈(g 0).map (·.1):=s;show a∈(osJ A h x n J).map (·.1);rw[Z] at s;unfold osJ osC at s;rw[Ye] at s;obtain⟨i,P,e⟩:=Zv.mp s
      rw[<-e];exact zlh (zen X.lt (Yw.mp P))
     |succ j=>exact lp.sb j vB a s
    ·cases j with
     |zero=>rw[decide_eq_true (Jg T),Bool.true_or];exact F
     |succ j=>
      have:=ts j vB
      rw[show decide (j+1<T+1)=decide (j<T) from decide_eq_decide.mpr vB];exact this
    ·cases j with
     |zero=>rw[decide_eq_true (Jg T)];exact ee
     |succ j=>
      have:=es j vB (Q.imp (λz=>by omega) id)
      rw[show decide (j+1<T+1)=decide (j<T) from decide_eq_decide.mpr vB];exact this
  ·rw[if_neg H];rw[decide_eq_false H] at F;refine⟨λ_=>osJ A h x n J,λ_=>(k:Int),0,rfl,rfl,⟨λ_ _ o=>M o,λj l=>by omega,λj l=>by omega⟩,λj l=>?_,λj l Q=>?_,rfl,rfl⟩
   ·have:j=0:=by omega
    subst this;exact F
   ·rcases Q with z|z
    ·omega
    ·cases z
end
end
open Sf
open Mg Fi PySem
section
variable{Γ:Nat->∅}
def puE(l r:List V):Bool×Nat×(Nat->Nat)×Nat:=finP (hS l) (xS l r) l.length l.length λi=>i
def puM(l r:List V)(n:Nat)(J:Nat->Nat)(i:Nat):V:=Fi.mt (wy (hS l (J (pv n i)))) (wy (hS l (J i))) (((hS l (J (pv n i))).2.2:Rat)-1*xS l r (J (pv n i))) (((hS l (J i)).2.2:Rat)-1*xS l r (J i))
def puL(l r:List V):List V:=if (puE l r).1=true then [] else ddL ((List.range (puE l r).2.1).map (puM l r (puE l r).2.1 (puE l r).2.2.1))
def zpo{l r:List V}(T:Bd2 l r):PuS (hS l) (xS l r) l.length (puE l r).1 (puE l r).2.1 (puE l r).2.2.1 (puE l r).2.2.2:=by
 have e:=T.hr.three;have d:0<r.length:=by omega
 exact zzn (zgd (nodup T.hr) vB 0) (λj _=>(zdi d _).1 _ (B8 d _)) (λj _=>(zdi d _).1 _ (B8 d _)) _ _ _ _ (Zl _) vA (zsh T.hl _)
def ydj(m:Γ 95=zbr)(B:Γ 96=znq)(C:Γ 21=zbb)(o:Γ 100=zdf){l r:List V}(T:Bd2 l r):
  zmm Γ Xi Tht 1 o_pushes.1 o_pushes.2.1 o_pushes.2.2.1 o_pushes.2.2.2 (.lst (l.map stD)) (.lst (r.map stD)) (.new ((puL l r).map stD)):=by
 have Y:=T.fl;have E:=T.hl.three;have Z:=T.hr.three;have p:0<r.length:=by omega
 have s:∀d:List (Addr×List D),d.map (·.2)=lsS l r (λi=>clD (clJ (hS l) (xS l r) l.length (λi=>i) i))->(d.map (·.1)).Nodup->∃A:Nat->Addr,d=osJ A (hS l) (xS l r) l.length (λi=>i)/\∀i j,i<l.length->j<l.length->A i=A j->i=j:=λd e t=>by
  have I:(d.map (·.1)).length=l.length:=by
   have:=congrArg List.length e
   unfold lsS at this;rw[Zc,Zc,Z7] at this;rw[Zc];exact this
  obtain⟨K,_⟩:∃a,(d.map (·.1))[0]? = some a:=⟨(d.map (·.1))[0]'vB,Zi _⟩
  refine⟨λi=>(d.map (·.1)).getD i K,os_eq ?_ ?_,λi j v hj z=>zsp t vB vB z⟩
  ·unfold osJ osC;rw[Ye,<-I];exact rng_getD.symm
  ·rw[e];unfold osJ osC lsS;rw[Ye];rfl
 have w:∀q,q∈r->∀j,j<l.length->xS l r j<=xr (wy (hS l j)) q:=λq L j _=>(zdi p _).1 q L
 refine⟨_,(((ear (clJ (hS l) (xS l r) l.length λi=>i) l.length).getD 0:Nat):Int),⟨l,r,T,rfl,rfl,rfl⟩,λd e t=>?_,λd e t=>?_⟩
 ·obtain⟨A,F,inj⟩:=s d e t
  subst F;have:=yia (A:=A) (n:=l.length) (J:=λi=>i) T.hb T.sx vB
  obtain⟨k',p',X⟩:=(zsh T.hl (xS l r)).next (zgd (nodup T.hr) vB 0) (w _ (B8 p _)) (w _ (B8 p _))
  rw[X.ear] at this |-;rw[ydd];exact zxj m this
 ·obtain⟨A,F,inj⟩:=s d e t
  subst F;obtain⟨G,M,N,O,P,lp,Q,R,S,U⟩:=zne (Γ:=Γ) (A:=A) (d0:=.lst (l.map stD)) (d1:=.lst (r.map stD)) m B C T.hb T.sx (zgd (nodup T.hr) vB 0) (w _ (B8 p _)) (w _ (B8 p _)) l.length l.length (λi=>i) 0 (Zl _) vB (zsh T.hl (xS l r)) inj
  refine⟨G,M,N,(puE l r).1,O,P,lp,Q,R,?_⟩
  have h:=zpo T;unfold puL;by_cases u:(puE l r).1=true
  ·rw[if_pos u,if_pos u];rfl
  ·rw[if_neg u,if_neg u];unfold PuS at h;rw[if_neg u] at h;rw[S,U];show exs Γ o_pushes.2.2.2 [~~~_,~~~_,~~~.lst (dOs (osJ A (hS l) (xS l r) (puE l r).2.1 (puE l r).2.2.1)),~~~.int _,none]=_;generalize (puE l r).2.1=n at *;generalize (puE l r).2.2.1=J at *;have n3:=h.ok.three;have nl:n<=60:=by
    have:∀i,i<n->i<=J i:=λi=>by
     induction i with
     |zero=>intro _;omega
     |succ i W=>intro v;have:=h.mono i (i+1) vB v;have:=W vB;omega
    have a:=this (n-1) vB;have b:=h.lt (n-1) vB;omega
   have H:=yly (f:=λi=>bD (A (J i)) (J i:Int) (hS l (J i)) (xS l r (J i)) (clD (clJ (hS l) (xS l r) n J i))) (g:=puM l r n J) (n:=n) (T:=fr 1) vB (λi v=>zqa (T.hb _) (T.hb _) (T.sy _) (T.sy _) (by
    have:=h.ok.bendp v
    have this:0<xr (wy (hS l (J (pv n i)))) (wy (hS l (J i))):=this;rw[zdy,show(0:Rat)=((0:Int):Rat) from rfl,Z6] at this;omega))
   unfold osJ;rw[zpu];exact zxi o H (zcu _) (dd_int (by rw[Zc,Z7];omega))
def PuAt(d:List D)(w:W):Prop:=∃l r,Bd2 l r/\d=[.lst (l.map stD),.lst (r.map stD)]/\w=.new ((puL l r).map stD)
open Classical in
def zfu(d:List D):Option W:=if h:∃w,PuAt d w then some h.choose else none
def ydk(g:Γ 95=zbr)(m:Γ 96=znq)(n:Γ 21=zbb)(d:Γ 100=zdf):∀o p q,zfu [o,p]=some q->zmm Γ Xi Tht 1 o_pushes.1 o_pushes.2.1 o_pushes.2.2.1 o_pushes.2.2.2 o p q:=λo p q h=>by
 unfold zfu at h;split at h
 ·next z=>
  obtain⟨l,r,T,e,t⟩:=z.choose_spec
  have f:=Zw h;rw[t] at f;subst f;injection e with u s
  injection s with s _
  rw[u,s];exact ydj g m n d T
 ·cases h
def zdo{l r:List V}(T:Bd2 l r):zfu [.lst (l.map stD),.lst (r.map stD)]=some (.new ((puL l r).map stD)):=by
 have ex:∃w,PuAt [.lst (l.map stD),.lst (r.map stD)] w:=⟨_,l,r,T,rfl,rfl⟩;unfold zfu;rw[dif_pos ex];obtain⟨h,m,n,e,g⟩:=ex.choose_spec
 injection e with f d
 injection d with d _
 injection f with f
 injection d with d
 have:=zel f
 have:=zel d
 subst_vars
 rw[g]
def ykw{l r:List V}(T:Bd2 l r)(h:(puE l r).1=true):∀u,¬ ∀q∈r,InS l (sp 1 u q):=λu m=>by
 have f:=zpo T;unfold PuS at f;rw[if_pos h] at f;obtain⟨p,F,n⟩:=f
 obtain⟨S,_,C⟩:=yoh F T.hb
 have:=C.max F.fac (P:=l) (λj d q g=>zfg T.hl g j d) (λj d=>in_off T.hl d) (s:=1) (u:=u) λj d=>by
  obtain⟨_,q,g,e⟩:=zdi T.pr (hS l j)
  have:=m q g j d
  rw[zow] at this;show _<=1*lwS r (hS l j)+_;rw[e];exact this
 grind
def ykx{l r:List V}(T:Bd2 l r)(h:(puE l r).1=false){i:Nat}(e:i<(puE l r).2.1):∀q∈r,InS l (sp 1 (puM l r (puE l r).2.1 (puE l r).2.2.1 i) q):=λq f j g=>by
 have d:=zpo T;unfold PuS at d;rw[if_neg (by rw[h];decide)] at d;have a:=d.back (puM l r (puE l r).2.1 (puE l r).2.2.1 i) (λk m=>d.ok.keeps i k e m) j g;have b:xS l r j<=xr (wy (hS l j)) q:=(zdi T.pr (hS l j)).1 q f;rw[zow];grind
def dd_ne{l:List V}(h:l≠[]):ddL l≠[]:=by
 cases l with
 |nil=>exact absurd rfl h
 |cons a l=>
  unfold ddL;intro z;have:((a,0):V×Nat)∈((a::l).zipIdx.filter λp=>decide (p.1∉(a::l).take p.2)):=K5.mpr ⟨by rw[U7];exact .head _,by simp⟩
  rw[Gq.mp z] at this;cases this
def pu_ne{l r:List V}(T:Bd2 l r)(h:(puE l r).1=false):puL l r≠[]:=by
 have d:=zpo T;unfold PuS at d;rw[if_neg (by rw[h];decide)] at d;have e:=d.ok.three;unfold puL;rw[if_neg (by rw[h];decide)];refine dd_ne λz=>?_;have:=congrArg List.length z
 rw[Zc,Z7] at this;simp only[Q4] at this;omega
end
open Sf
open Mg Fi PySem
def ydm{s t:H3}{k:Rat}(h:gc (gc s.1 s.2.1) s.2.2=1)(l:0<k)(n:(t.1:Rat)=k*s.1)(o:(t.2.1:Rat)=k*s.2.1)(p:(t.2.2:Rat)=k*s.2.2):∃m:Int,m≠0/\t.1=m*s.1/\t.2.1=m*s.2.1/\t.2.2=m*s.2.2:=by
 have v:(0:Rat)<((k.den:Int):Rat):=zgf k;have q:=znn k;have c:∀a b:Int,(b:Rat)=k*a->(k.den:Int)*b=k.num*a:=λa b e=>by
  have:(((k.den:Int)*b:Int):Rat)=((k.num*a:Int):Rat):=by
   rw[Z4,Z4,q,e];grind
  exact Rat.intCast_inj.mp this
 have d:=c _ _ n;have f:=c _ _ o;have g3:=c _ _ p;have g:Int.gcd (k.den:Int) k.num=1:=by
  rw[Gk];exact k.reduced
 have r:(k.den:Int)∣1:=by
  have:=dvd_g (zqo g ⟨t.1,d.symm⟩) (zqo g ⟨t.2.1,f.symm⟩) (zqo g ⟨t.2.2,g3.symm⟩)
  rw[h] at this;exact this
 have u:(k.den:Int)=1:=Int.eq_one_of_dvd_one (Yv _) r;rw[u,Vs] at d f g3;have w:=numP l;exact⟨k.num,by omega,d,f,g3⟩
def zyh{m s:Int}(h:m≠0):s.natAbs<=(m*s).natAbs:=by
 rw[Yb];exact Nat.le_mul_of_pos_left _ vB
def divI{x d:Int}:Rat.divInt x d=(x:Rat)*(d:Rat)⁻¹:=by rw[Jp,Kn]
open Sf
open Mg Fi PySem
section
variable{h:Nat->H3}{x:Nat->Rat}{N:Nat}
theorem zof{v d:V}(e:v≠d)(f:∀j,j<N->x j<=xr (wy (h j)) v)(g:∀j,j<N->x j<=xr (wy (h j)) d):∀(m n:Nat) (J:Nat->Nat) (t:Rat),n<=m->Lst h x N n J t->Span (λi=>wy (h ((finP h x m n J).2.2.1 i))) (finP h x m n J).2.1
 |0,n,J,t,q,L=>by have:=L.ok.three;omega
 |m+1,n,J,t,q,L=>by
  obtain⟨k,p,X⟩:=L.next e f g
  unfold finP;simp only[X.ear,X.cl,Kz];by_cases l:p.1<p.2
  ·rw[if_pos l];by_cases o:0<=crI (h (J (nx n k))) (h (J (pv n k)))
   ·rw[if_pos o];exact L.span
   ·rw[if_neg o];obtain⟨L2,r⟩:=X.drop L vB
    exact zof e f g m (n-1) _ _ vB L2
  ·rw[if_neg l];exact L.span
end
def yks{l r:List V}(T:Bd2 l r):Span (λi=>wy (hS l ((puE l r).2.2.1 i))) (puE l r).2.1:=by
 have e:=T.hr.three;have d:0<r.length:=by omega
 exact zof (zgd (nodup T.hr) vB 0) (λj _=>(zdi d _).1 _ (B8 d _)) (λj _=>(zdi d _).1 _ (B8 d _)) _ _ _ _ (Zl _) (zsh T.hl _)
def zwp{s:Nat->Rat}{n:Nat}{a b:Nat}(g:a<n)(d:b<n)(h:0<s a)(m:s b<=0):∃i,i<n/\0<s (pv n i)/\s i<=0:=by
 have f:∀k,k<=n->0<s ((a+k)%n)\/∃i,i<n/\0<s (pv n i)/\s i<=0:=by
  intro k;induction k with
  |zero=>intro _;left;rw[Nat.add_zero,Zj g];exact h
  |succ k l=>
   intro o;rcases l vB with z|z
   ·by_cases c:0<s ((a+(k+1))%n)
    ·exact .inl c
    ·refine .inr ⟨(a+(k+1))%n,Wp _ vB,?_,Rat.not_lt.mp c⟩;have e:pv n ((a+(k+1))%n)=(a+k)%n:=by
      have lt:=Wp (a+k) (show 0<n by omega);have:(a+(k+1))%n=((a+k)%n+1)%n:=by rw[Wt];rfl
      rw[this,<-zsd lt,zuk lt]
     rw[e];exact z
   ·exact .inr z
 by_cases c:a<=b
 ·rcases f (b-a) vB with z|z
  ·rw[show a+(b-a)=b by omega,Zj d] at z;grind
  ·exact z
 ·rcases f (n-a+b) vB with z|z
  ·rw[show a+(n-a+b)=b+n by omega,Yt,Zj d] at z;grind
  ·exact z
def cone{D:Nat->V}{n:Nat}(S:Span D n){d:V}(g:d≠(0,0)):∃i,i<n/\0<xr (D (pv n i)) d/\xr (D i) d<=0:=by
 have pos:∃a,a<n/\0<xr (D a) d:=by
  apply Yu
  intro e;refine g ?_;have z:=S (ng d) λi f=>by
   have:¬0<xr (D i) d:=λz=>e ⟨i,f,z⟩
   rw[zhn];grind
  have h:=congrArg Prod.fst z;have l:=congrArg Prod.snd z;unfold ng at h l;simp only at h l
  exact Yh (by dsimp only;grind) (by dsimp only;grind)
 have neg:∃b,b<n/\xr (D b) d<=0:=by
  apply Yu
  intro e;refine g (S d λi f=>?_);have:¬xr (D i) d<=0:=λz=>e ⟨i,f,z⟩
  grind
 obtain⟨a,m,o⟩:=pos
 obtain⟨b,p,q⟩:=neg
 exact zwp (s:=λi=>xr (D i) d) m p o q
def yek{D:Nat->V}{c l:Nat->Rat}{n:Nat}{t:Rat}(O:Ok D c l n t)(S:Span D n){d:V}(h:d≠(0,0)):∃i,i<n/\∀u,(∀k,k<n->ee c l t k<=xr (D k) u)->xr d (mi D c l n t i)<=xr d u:=by
 obtain⟨i,f,m,o⟩:=cone S h
 refine⟨i,f,λu g=>?_⟩
 have b:=O.bendp f;have p:=g _ (zda f);have q:=g i f;have r:xr (D (pv n i)) (mi D c l n t i)=ee c l t (pv n i):=mt_l b;have s:xr (D i) (mi D c l n t i)=ee c l t i:=mt_r b;generalize mi D c l n t i=P at *;generalize D (pv n i)=A at *;generalize D i=B at *;have e:∀w:V,xr A B*xr d w=xr d B*xr A w+xr A d*xr B w:=λw=>by unfold xr;grind
 have v:=Zn (show 0<=xr d B by rw[zac];grind) (show 0<=xr A u-xr A P by grind);have z:=Zn (Zy m) (show 0<=xr B u-xr B P by grind);have:=e u
 have:=e P
 have:0<=(xr d u-xr d P)*xr A B:=by grind
 have:=zad b this
 grind
def pu_low{l r:List V}(T:Bd2 l r)(h:(puE l r).1=false){d:V}(g:d≠(0,0)):∃i,i<(puE l r).2.1/\∀u,(∀q∈r,InS l (sp 1 u q))->xr d (puM l r (puE l r).2.1 (puE l r).2.2.1 i)<=xr d u:=by
 have f:=zpo T;unfold PuS at f;rw[if_neg (by rw[h];decide)] at f;obtain⟨i,m,k⟩:=yek f.ok (yks T) g
 refine⟨i,m,λu n=>k u λj o=>?_⟩
 obtain⟨_,q,p,e⟩:=zdi T.pr (hS l ((puE l r).2.2.1 j))
 have:=n q p _ (f.lt j o)
 rw[zow] at this;have s:xS l r ((puE l r).2.2.1 j)=xr (wy (hS l ((puE l r).2.2.1 j))) q:=e;unfold ee;dsimp only;rw[s];grind
def dd_mem{l:List V}{q:V}:q∈ddL l↔q∈l:=by
 unfold ddL;rw[Zv];constructor
 ·rintro⟨p,h,e⟩
  have:=(K5.mp h).1
  obtain⟨i,d,f⟩:=Qr this
  rw[Uj] at f;rw[<-e,<-f];exact Kk _
 ·intro g;obtain⟨i,d,e,mn⟩:∃i,∃d:i<l.length,l[i]=q/\q∉l.take i:=by
   induction l with
   |nil=>cases g
   |cons a l n=>
    by_cases c:a=q
    ·exact⟨0,by simp,by simpa using c,by simp⟩
    ·obtain⟨i,d,e,m⟩:=n (by rcases Zg.mp g with z|z;exact absurd z.symm c;exact z)
     refine⟨i+1,by simp;omega,by simpa using e,?_⟩
     rw[List.take_succ_cons];intro z;rcases Zg.mp z with y|y
     ·exact c y.symm
     ·exact m y
  refine⟨(q,i),K5.mpr ⟨?_,by simpa using mn⟩,rfl⟩
  rw[List.mem_iff_getElem];refine⟨i,by rw[Qb];exact d,?_⟩
  rw[Uj,e];simp
namespace Fi
open Mg
section
variable{D:Nat->V}{c l:Nat->Rat}{n:Nat}{t:Rat}
def Ok.onl(O:Ok D c l n t){i:Nat}(d:i<n):xr (D (pv n i)) (mi D c l n t i)=ee c l t (pv n i):=mt_l (O.bendp d)
def Ok.onr(O:Ok D c l n t){i:Nat}(d:i<n):xr (D i) (mi D c l n t i)=ee c l t i:=mt_r (O.bendp d)
def Ok.onn(O:Ok D c l n t){i:Nat}(d:i<n):xr (D i) (mi D c l n t (nx n i))=ee c l t i:=by
 have:=O.onl (zdz d)
 rwa [zuk d] at this
def Ok.step(O:Ok D c l n t){i:Nat}(d:i<n):∃m,0<=m/\mi D c l n t (nx n i)=pl (mi D c l n t i) (m*(D i).1,m*(D i).2):=by
 refine Fi.len (O.bendp d) (O.bend i d) (O.onl d) (O.onr d) ?_ ?_ (O.lens i d)
 ·exact O.onn d
 ·exact O.onr (zdz d)
def Ok.edge(O:Ok D c l n t){i j:Nat}(d:i<n)(e:j<n)(T:xr (D i) (mi D c l n t j)=ee c l t i):mi D c l n t j=mi D c l n t i\/mi D c l n t j=mi D c l n t (nx n i):=by
 have u:=O.bendp d;have v:=O.bend i d;have W:=O.onl d;have X:=O.onr d;have Y:=O.onn d;have Z:=O.onr (zdz d);have k1:=O.keeps j _ e (zda d);have k2:=O.keeps j _ e (zdz d);have u1:=O.onl e;have u2:=O.onr e;have v1:=O.keeps i _ d (zda e);have v2:=O.keeps i _ d e;have w1:=O.keeps _ _ (zdz d) (zda e);have w2:=O.keeps _ _ (zdz d) e;have bj:=O.bendp e;generalize mi D c l n t j=U at *;generalize mi D c l n t i=P at *;generalize mi D c l n t (nx n i)=Q at *;generalize D (pv n i)=A at *;generalize D (nx n i)=C at *;generalize D i=B at *;generalize D (pv n j)=E at *;generalize D j=F at *;generalize ee c l t i=eB at *;generalize ee c l t (pv n i)=eA at *;generalize ee c l t (nx n i)=eC at *;generalize ee c l t (pv n j)=eE at *;generalize ee c l t j=eF at *;have f:xr A B≠0:=by grind
 have g:xr B C≠0:=by grind
 have p:xr A B*(U.1-P.1)=(xr A U-xr A P)*B.1:=by
  have:xr B U=xr B P:=by grind
  unfold xr at *;grind
 have q:xr A B*(U.2-P.2)=(xr A U-xr A P)*B.2:=by
  have:xr B U=xr B P:=by grind
  unfold xr at *;grind
 have r:xr B C*(Q.1-U.1)=(xr C U-xr C Q)*B.1:=by
  have:xr B U=xr B Q:=by grind
  unfold xr at *;grind
 have s:xr B C*(Q.2-U.2)=(xr C U-xr C Q)*B.2:=by
  have:xr B U=xr B Q:=by grind
  unfold xr at *;grind
 by_cases w:xr A U=xr A P
 ·left
  rw[w] at p q;have h:xr A B*(U.1-P.1)=0:=by grind
  have m:xr A B*(U.2-P.2)=0:=by grind
  have h:=(Y7.mp h).resolve_left f;have m:=(Y7.mp m).resolve_left f;exact Yh (by grind) (by grind)
 ·by_cases z:xr C U=xr C Q
  ·right
   rw[z] at r s;have h:xr B C*(Q.1-U.1)=0:=by grind
   have m:xr B C*(Q.2-U.2)=0:=by grind
   have h:=(Y7.mp h).resolve_left g;have m:=(Y7.mp m).resolve_left g;exact Yh (by grind) (by grind)
  ·exfalso
   have H:0<xr A U-xr A P:=by grind
   have I:0<xr C U-xr C Q:=by grind
   have o:∀G:V,xr G U<=xr G P->xr G U<=xr G Q->xr G B=0:=λG h1 h2=>by
    have J:xr A B*(xr G P-xr G U) = - (xr A U-xr A P)*xr G B:=by
     have:xr A B*(xr G P-xr G U) = - (G.1*(xr A B*(U.2-P.2))-G.2*(xr A B*(U.1-P.1))):=by unfold xr;grind
     rw[this,p,q];unfold xr;grind
    have K:xr B C*(xr G Q-xr G U)=(xr C U-xr C Q)*xr G B:=by
     have:xr B C*(xr G Q-xr G U)=G.1*(xr B C*(Q.2-U.2))-G.2*(xr B C*(Q.1-U.1)):=by unfold xr;grind
     rw[this,r,s];unfold xr;grind
    have L:=Zn (Zy u) (show 0<=xr G P-xr G U by grind);have M:=Zn (Zy v) (show 0<=xr G Q-xr G U by grind);rw[J] at L;rw[K] at M;have l1:xr G B<=0:=by
     by_cases y:xr G B<=0
     ·exact y
     ·have:=Zq H (show 0<xr G B by grind)
      grind
    have l2:0<=xr G B:=by
     by_cases y:0<=xr G B
     ·exact y
     ·have:=Zq I (show 0 < - xr G B by grind)
      grind
    grind
   have N:=o E (by grind) (by grind);have R:=o F (by grind) (by grind);have S:xr E F*xr A B=0:=by
    have:xr E F*xr A B=xr E B*xr A F-xr F B*xr A E:=by unfold xr;grind
    rw[this,N,R];grind
   have:=(Y7.mp S).resolve_right f
   grind
end
end Fi
namespace Fi
open Mg Sf
structure Rg(D P:Nat->V)(E:Nat->Rat)(n:Nat):Prop where
 three:3<=n
 srt:∀i k,i<k->k<n->bf (D i) (D k)
 step:∀i,i<n->∃m,0<=m/\P (i+1)=pl (P i) (m*(D i).1,m*(D i).2)
 close:P n=P 0
 keep:∀i k,i<=n->k<n->E k<=xr (D k) (P i)
 on:∀k,k<n->xr (D k) (P k)=E k
 edge:∀i k,i<=n->k<n->xr (D k) (P i)=E k->P i=P k\/P i=P (k+1)
section
variable{D P:Nat->V}{E:Nat->Rat}{n:Nat}
def Rg.go(R:Rg D P E n){i:Nat}(d:i<n)(f:P i≠P (i+1)):∃m,0<m/\P (i+1)=pl (P i) (m*(D i).1,m*(D i).2):=by
 obtain⟨m,g,e⟩:=R.step i d
 refine⟨m,?_,e⟩
 by_cases z:m=0
 ·refine absurd ?_ f;rw[e,z];unfold pl;exact Yh (by dsimp only;grind) (by dsimp only;grind)
 ·grind
def zrr{u v:V}(h:bf u v){m k:Rat}(g:0<m)(l:0<k)(f:m*u.1=k*v.1)(p:m*u.2=k*v.2):False:=by
 have q:xr u v=0:=by
  have:m*xr u v=0:=by unfold xr;grind
  exact(Y7.mp this).resolve_left (by grind)
 rcases h with⟨a,b⟩|⟨_,_,c⟩|⟨_,_,c⟩
 ·have d:∀{x:Rat},0<x->0<m*x:=λh=>Zq g h
  have e:∀{x:Rat},0<x->0<k*x:=λh=>Zq l h
  rcases a with a|⟨a,n⟩<;>rcases b with b|⟨b,o⟩
  ·have:=d a;have:=e b;simp only[ng] at *;grind
  ·have:=d a;simp only[ng] at *;have:v.1=0:=by grind
   rw[this] at f;grind
  ·have:=e b;simp only[ng] at *;rw[a] at f;grind
  ·have:=d n;have:=e o;simp only[ng] at *;grind
 ·grind
 ·grind
def Rg.enter(R:Rg D P E n){i k:Nat}(d:i<n)(f:k<n)(t:i≠k)(e:P (i+1)=P (k+1))(u:P i≠P (i+1))(l:P k≠P (k+1)):False:=by
 obtain⟨m,g,v⟩:=R.go d u
 obtain⟨o,h,w⟩:=R.go f l
 have G:=R.keep k i vB d;have H:=R.keep i k vB f;have I:=R.on i d;have J:=R.on k f;have q:pl (P i) (m*(D i).1,m*(D i).2)=pl (P k) (o*(D k).1,o*(D k).2):=by rw[<-v,<-w,e]
 have A:(P i).1+m*(D i).1=(P k).1+o*(D k).1:=congrArg Prod.fst q;have B:(P i).2+m*(D i).2=(P k).2+o*(D k).2:=congrArg Prod.snd q;have ed:=R.edge k i vB d;have srt:bf (D i) (D k)\/bf (D k) (D i):=by
  rcases Nat.lt_or_gt_of_ne t with z|z
  ·exact .inl (R.srt _ _ z f)
  ·exact .inr (R.srt _ _ z d)
 have C:xr (D i) (P k)=xr (D i) (P i)-o*xr (D i) (D k):=by unfold xr;grind
 have K:xr (D k) (P i)=xr (D k) (P k)-m*xr (D k) (D i):=by unfold xr;grind
 have F:xr (D i) (D k)=0:=by
  have L:xr (D i) (D k)<=0:=by
   by_cases y:xr (D i) (D k)<=0
   ·exact y
   ·have:=Zq h (show 0<xr (D i) (D k) by grind);grind
  have M:xr (D k) (D i)<=0:=by
   by_cases y:xr (D k) (D i)<=0
   ·exact y
   ·have:=Zq g (show 0<xr (D k) (D i) by grind);grind
  have:=zac (D k) (D i)
  grind
 rw[F] at C;rcases ed (by grind) with z|z
 ·rw[z] at A B;have p:m*(D i).1=o*(D k).1:=by grind
  have r:m*(D i).2=o*(D k).2:=by grind
  rcases srt with s|s
  ·exact zrr s g h p r
  ·exact zrr s h g p.symm r.symm
 ·exact l (z.trans e)
theorem Rg.ret(R:Rg D P E n):∀m j,j+m=n->P j≠P 0->∃k,j<=k/\k<n/\P k≠P 0/\P (k+1)=P 0
 |0,j,e,h=>absurd (by rw[show j=n by omega];exact R.close) h
 |m+1,j,e,h=>by
  by_cases c:P (j+1)=P 0
  ·exact⟨j,Zl _,by omega,h,c⟩
  ·obtain⟨k,a,b,c,d⟩:=R.ret m (j+1) vB c
   exact⟨k,by omega,b,c,d⟩
theorem arr:∀i,P 0≠P i->∃k,k<i/\P k≠P i/\P (k+1)=P i
 |0,h=>absurd rfl h
 |i+1,h=>by
  by_cases c:P i=P (i+1)
  ·obtain⟨k,a,b,d⟩:=arr i (by rw[c];exact h)
   exact⟨k,by omega,by rw[<-c];exact b,by rw[<-c];exact d⟩
  ·exact⟨i,by omega,c,rfl⟩
end
end Fi
open Mg Sf Fi
def zzz(l:List V)(x:V):ddL (l++[x])=if x∈l then ddL l else ddL l++[x]:=by
 have e:∀p∈l.zipIdx,decide (p.1∉(l++[x]).take p.2)=decide (p.1∉l.take p.2):=λp d=>by
  have:=List.snd_lt_of_mem_zipIdx d
  rw[List.take_append_of_le_length vB]
 unfold ddL;rw[List.zipIdx_append,List.filter_append,Y3,List.filter_congr e];have f:[x].zipIdx (0+l.length)=[(x,l.length)]:=by rw[Yz];rfl
 rw[f];by_cases h:x∈l
 ·rw[if_pos h,Bh,if_neg (by
   rw[List.take_left];simpa using h)]
  rw[List.filter_nil,Wh,Qm]
 ·rw[if_neg h,Bh,if_pos (by
   rw[List.take_left];simpa using h)]
  rfl
def yfj:∀l:List V,(ddL l).Nodup:=λl=>by
 have:∀m (l:List V),l.length=m->(ddL l).Nodup:=λm=>by
  induction m with
  |zero=>intro l h;rw[Js.mp h];exact Vy
  |succ m f=>
   intro l h;have g:l≠[]:=λz=>by rw[z] at h;cases h
   rw[<-List.dropLast_concat_getLast g,zzz];have a:=f l.dropLast (by rw[List.length_dropLast];omega);split
   ·exact a
   ·next z=>
    refine U0.mpr ⟨a,by simp,λb d c e=>?_⟩;rw[Zp] at e;rw[e];intro y;rw[y] at d;exact z (dd_mem.mp d)
 exact this _ l rfl
open Mg Sf Fi
section
variable{D P:Nat->V}{E:Nat->Rat}{n:Nat}
def upto(P:Nat->V)(j:Nat):List V:=(List.range j).map P
def zvs(P:Nat->V)(j:Nat):upto P (j+1)=upto P j++[P j]:=by
 unfold upto;rw[List.range_succ,Y3];rfl
def mem_upto{P:Nat->V}{j:Nat}{x:V}:x∈upto P j ↔ ∃i,i<j/\P i=x:=by
 unfold upto;rw[Zv];constructor
 ·rintro⟨i,d,e⟩;exact⟨i,Yw.mp d,e⟩
 ·rintro⟨i,d,e⟩;exact⟨i,Yw.mpr d,e⟩
structure Wk(P:Nat->V)(n j:Nat)(L:List V):Prop where
 head:L[0]? = some (P 0)
 two:∀(a:Nat) (u v:V),L[a]? = some u->L[a+1]? = some v->∃k,k<n/\P k=u/\P (k+1)=v/\P k≠P (k+1)
 last:L.getLast? = some (P (j-1))\/∃k,k+1<j/\L.getLast? = some (P k)/\P k≠P (k+1)/\P (k+1)=P 0/\∀i,k+1<=i->i<j->P i=P 0
theorem rg_wk(R:Rg D P E n):∀j,j+1<=n->Wk P n (j+1) (ddL (upto P (j+1)))
 |0,h=>by
  have e:ddL (upto P 1)=[P 0]:=rfl;rw[e];refine⟨rfl,λa u v o l=>?_,.inl rfl⟩
  rw[We,List.getElem?_nil] at l;cases l
 |j+1,h=>by
  have W:=rg_wk R j vB;rw[zvs,zzz];by_cases c:P j=P (j+1)
  ·rw[if_pos (mem_upto.mpr ⟨j,by omega,c⟩)];refine⟨W.head,W.two,?_⟩
   rcases W.last with z|⟨k,a,b,d,f,g⟩
   ·left
    rw[z,Wa,Wa,c]
   ·right
    refine⟨k,by omega,b,d,f,λi o l=>?_⟩
    by_cases y:i<j+1
    ·exact g i o y
    ·rw[show i=j+1 by omega,<-c];exact g j vB vB
  ·rcases W.last with z|⟨k,a,b,d,f,g⟩
   ·rw[Wa] at z;by_cases m:P (j+1)∈upto P (j+1)
    ·rw[if_pos m];refine⟨W.head,W.two,.inr ⟨j,by omega,z,c,?_,λi o l=>?_⟩⟩
     all_goals
      have p:P (j+1)=P 0:=by
       obtain⟨i,G,e⟩:=mem_upto.mp m
       apply Yu
       intro s;obtain⟨k,H,t,q⟩:=arr (P:=P) i (by rw[e];exact λz=>s z.symm)
       exact R.enter (i:=k) (k:=j) vB vB vB (q.trans e) (by rw[q];exact t) c
     ·exact p
     ·rw[show i=j+1 by omega];exact p
    ·rw[if_neg m];refine⟨?_,λa u v o l=>?_,.inl ?_⟩
     ·have:=W.head
      rw[Ya (Zm.mp this).1];exact this
     ·by_cases y:a+1<(ddL (upto P (j+1))).length
      ·rw[Ya y] at l;rw[Ya vB] at o;exact W.two a u v o l
      ·have l2:=(Zm.mp l).1;rw[Z5,J0] at l2;have w:a=(ddL (upto P (j+1))).length-1:=by omega
       rw[Ya vB,w,<-Jj,z] at o;rw[Yd vB,show a+1-(ddL (upto P (j+1))).length=0 by omega] at l;exact⟨j,by omega,Zw o,Zw l,c⟩
     ·rw[List.getLast?_append,List.getLast?_singleton,Wa];rfl
   ·exfalso
    have A:P j=P 0:=g j vB vB;obtain⟨B,I,C,F,r⟩:=R.ret (n-(j+1)) (j+1) vB (λz=>c (A.trans z.symm))
    exact R.enter (i:=k) (k:=B) vB C vB (f.trans r.symm) d (by rw[r];exact F)
def yat{u v:V}(h:bf u v):(up u\/up (ng u))/\(up v\/up (ng v)):=by
 rcases h with⟨a,b⟩|⟨a,b,_⟩|⟨a,b,_⟩
 ·exact⟨.inl a,.inr b⟩
 ·exact⟨.inl a,.inl b⟩
 ·exact⟨.inr a,.inr b⟩
def bf_up{u v:V}(h:bf u v)(k:up v):up u:=by
 rcases h with⟨a,b⟩|⟨a,b,_⟩|⟨a,b,_⟩
 ·exact a
 ·exact a
 ·exact(nup k b).elim
def bf_dn{u v:V}(h:bf u v)(k:up (ng u)):up (ng v):=by
 rcases h with⟨a,b⟩|⟨a,b,_⟩|⟨a,b,_⟩
 ·exact b
 ·exact(nup a k).elim
 ·exact b
def ygu{u:V}{m:Rat}(d:0<m)(h:up u):up (m*u.1,m*u.2):=by
 rcases h with h|⟨h,k⟩
 ·exact .inl (Zq d h)
 ·exact .inr ⟨by dsimp only;rw[h];grind,Zq d k⟩
theorem yhb(R:Rg D P E n):∀i,i<=n->(∀k,k<i->up (D k))->P i=P 0\/up (mn (P i) (P 0))
 |0,_,_=>.inl rfl
 |i+1,h,d=>by
  have f:=yhb R i vB λk o=>d k vB
  by_cases c:P i=P (i+1)
  ·rw[<-c];exact f
  ·right
   obtain⟨m,l,e⟩:=R.go vB c
   have g:=ygu l (d i vB);rcases f with z|z
   ·have:mn (P (i+1)) (P 0)=(m*(D i).1,m*(D i).2):=by rw[e,z];unfold mn pl;exact Yh (by dsimp only;grind) (by dsimp only;grind)
    rw[this];exact g
   ·have:mn (P (i+1)) (P 0)=pl (mn (P i) (P 0)) (m*(D i).1,m*(D i).2):=by rw[e];unfold mn pl;exact Yh (by dsimp only;grind) (by dsimp only;grind)
    rw[this];exact yir z g
theorem yhc(R:Rg D P E n):∀m i,i+m=n->(∀k,i<=k->k<n->up (ng (D k)))->P i=P 0\/up (mn (P i) (P 0))
 |0,i,h,_=>by rw[show i=n by omega];exact .inl R.close
 |m+1,i,h,d=>by
  have f:=yhc R m (i+1) vB λk o=>d k vB
  by_cases c:P i=P (i+1)
  ·rw[c];exact f
  ·right
   obtain⟨m,l,e⟩:=R.go vB c
   have g:=ygu l (d i vB vB);rcases f with z|z
   ·have:mn (P i) (P 0)=(m*(ng (D i)).1,m*(ng (D i)).2):=by rw[<-z,e];unfold mn pl ng;exact Yh (by dsimp only;grind) (by dsimp only;grind)
    rw[this];exact g
   ·have:mn (P i) (P 0)=pl (mn (P (i+1)) (P 0)) (m*(ng (D i)).1,m*(ng (D i)).2):=by rw[e];unfold mn pl ng;exact Yh (by dsimp only;grind) (by dsimp only;grind)
    rw[this];exact yir z g
def ydf(R:Rg D P E n){i:Nat}(f:i<=n)(d:P i≠P 0):ltR (P 0) (P i):=by
 rw[ltR_up];have e:=R.three;cases i with
 |zero=>exact absurd rfl d
 |succ i=>
  have g:up (D i)\/up (ng (D i)):=by
   by_cases z:i=0
   ·rw[z];exact(yat (R.srt 0 1 vB vB)).1
   ·exact(yat (R.srt 0 i vB vB)).2
  rcases g with u|u
  ·refine(yhb R (i+1) f λk l=>?_).resolve_left d;by_cases z:k=i
   ·rw[z];exact u
   ·exact bf_up (R.srt k i vB vB) u
  ·refine(yhc R (n-(i+1)) (i+1) vB λk m h=>?_).resolve_left d;exact bf_dn (R.srt i k vB h) u
def Told(L:List V):Prop:=L=[]\/(∃p,L=[p])\/(∃p q,L=[p,q]/\ltR p q)\/IsShp L
def ykj(R:Rg D P E n){k i:Nat}(d:k<n)(g:i<=n)(h:P k≠P (k+1))(l:P i≠P k)(o:P i≠P (k+1)):0<oR (P k) (P (k+1)) (P i):=by
 obtain⟨m,p,e⟩:=R.go d h
 have a:=R.keep i k g d;have b:=R.on k d;have c:xr (D k) (P i)≠E k:=λz=>by rcases R.edge i k g d z with y|y;exact l y;exact o y
 have f:oR (P k) (P (k+1)) (P i)=m*(xr (D k) (P i)-xr (D k) (P k)):=by rw[e];unfold oR xr pl;grind
 rw[f];exact Zq p (by grind)
def yki(R:Rg D P E n):Told (ddL (upto P n)):=by
 have t:=R.three;have W:=rg_wk R (n-1) vB;rw[show n-1+1=n by omega] at W;have m:=yfj (upto P n);have o:∀x,x∈ddL (upto P n) ↔ ∃i,i<n/\P i=x:=λx=>dd_mem.trans mem_upto
 generalize ddL (upto P n)=L at *;have f:∀x,x∈L->x≠P 0->ltR (P 0) x:=λx w u=>by
  obtain⟨i,A,e⟩:=(o x).mp w
  rw[<-e];exact ydf R vB (by rw[e];exact u)
 have inj:∀(i j:Nat) (x:V),L[i]? = some x->L[j]? = some x->i=j:=λi j x d r=>by
  obtain⟨a,g⟩:=Zm.mp d
  obtain⟨b,l⟩:=Zm.mp r
  exact(Kl (h₀:=a) (h₁:=b) m).mp (g.trans l.symm)
 by_cases s:3<=L.length
 ·-- a shape
  refine .inr (.inr (.inr ⟨s,λk B q C d=>?_,λk a b c d r F G H=>?_⟩))
  ·have I:B=P 0:=Zw (C.symm.trans W.head);rw[I];refine f q (Yr d) λz=>?_;rw[z] at d;have:=inj _ _ _ d W.head
   omega
  ·have key:∃e,e<n/\P e=a/\P (e+1)=b/\P e≠P (e+1):=by
    have O:=(Zm.mp r).1;cases k with
    |succ k=>
     rw[show k+1+L.length-1=k+L.length by omega,Yt,Zj vB] at d;exact W.two k a b d r
    |zero=>
     rw[Yz,Zj vB,<-Jj] at d;have l:b=P 0:=Zw (r.symm.trans W.head);rcases W.last with z|⟨e,Q,J,K,M,_⟩
     ·have g:a=P (n-1):=Zw (d.symm.trans z);refine⟨n-1,by omega,g.symm,by rw[show n-1+1=n by omega,R.close,l],?_⟩
      rw[show n-1+1=n by omega,R.close];intro y;rw[Jj,g,y] at d;have:=inj _ _ _ d W.head
      omega
     ·exact⟨e,by omega,Zw (J.symm.trans d),by rw[M,l],K⟩
   obtain⟨e,N,g,l,u⟩:=key
   obtain⟨i,A,v⟩:=(o c).mp F
   rw[<-g,<-l,<-v];exact ykj R N vB u (by rw[v,g];exact G) (by rw[v,l];exact H)
 ·match L,W.head,m,f with
  |[],h,_,_=>cases h
  |[p],_,_,_=>exact .inr (.inl ⟨p,rfl⟩)
  |[p,q],h,m,f=>
   have e:p=P 0:=Zw h;refine .inr (.inr (.inl ⟨p,q,rfl,?_⟩));rw[e];refine f q vC λz=>?_;rw[e,z] at m;simp at m
  |_::_::_::_,_,_,_=>simp at s
end
open Mg Sf Fi
structure Tel(R:V->Prop)(L:List V):Prop where
 mem:∀p∈L,R p/\∃A B,xr A B≠0/\∀u,R u->xr A p<=xr A u/\xr B p<=xr B u
 low:L≠[]->∀d,d≠(0,0)->∃p∈L,∀u,R u->xr d p<=xr d u
 told:Told L
 ne:∀u,R u->L≠[]
def two_eq{A B p q:V}(h:xr A B≠0)(f:xr A p=xr A q)(g:xr B p=xr B q):p=q:=by
 have d:xr A B*(p.1-q.1)=0:=by unfold xr at *;grind
 have e:xr A B*(p.2-q.2)=0:=by unfold xr at *;grind
 have d:=(Y7.mp d).resolve_left h;have e:=(Y7.mp e).resolve_left h;exact Yh (by grind) (by grind)
def Tel.sub{R R':V->Prop}{L f:List V}(T:Tel R L)(d:Tel R' f)(h:∀u,R u↔R' u):∀p∈L,p∈f:=λp m=>by
 obtain⟨g,A,B,ne,lo⟩:=T.mem p m
 have n:pl A B≠(0,0):=λz=>ne (by
  have r:A.1+B.1=0:=congrArg Prod.fst z;have s:A.2+B.2=0:=congrArg Prod.snd z;unfold xr;grind)
 obtain⟨q,l,o⟩:=d.low (d.ne p ((h p).mp g)) _ n
 obtain⟨a,b⟩:=lo q ((h q).mpr (d.mem q l).1)
 have c:=o p ((h p).mp g);have e:∀w,xr (pl A B) w=xr A w+xr B w:=λw=>by unfold xr pl;grind
 rw[e,e] at c;rw[two_eq ne (show xr A p=xr A q by grind) (show xr B p=xr B q by grind)];exact l
def zsg{p q:V}(h:ltR p q):p≠q:=λe=>by
 rw[e] at h;rcases h with h|⟨_,h⟩<;>grind
def ltR_as{p q:V}(h:ltR p q)(k:ltR q p):False:=by
 rcases h with h|⟨h,d⟩<;>rcases k with k|⟨k,e⟩<;>grind
def zdn{l:List V}(h:IsShp l):rnd l 0∈l/\rnd l 1∈l/\rnd l 2∈l/\rnd l 0≠rnd l 1/\rnd l 1≠rnd l 2/\rnd l 0≠rnd l 2:=by
 have d:=h.three;have t:=turnp h 0;refine⟨B8 vB _,B8 vB _,B8 vB _,λe=>?_,λe=>?_,λe=>?_⟩
 all_goals
  have t:0<xr (mn (rnd l 1) (rnd l 0)) (mn (rnd l 2) (rnd l 1)):=t;rw[e] at t;unfold xr mn at t;grind
def yjc{L l:List V}(a:Told L)(b:Told l)(g:∀p∈L,p∈l)(h:∀p∈l,p∈L):L=l:=by
 rcases a with rfl|⟨p,rfl⟩|⟨p,q,rfl,lt⟩|s<;>rcases b with rfl|⟨m,rfl⟩|⟨m,o,rfl,lt'⟩|n
 ·rfl
 ·exact absurd (h m vC) vC
 ·exact absurd (h m vC) vC
 ·exact absurd (h _ (zdn n).1) vC
 ·exact absurd (g p vC) vC
 ·have:=g p vC;simp at this;rw[this]
 ·have a:=h m vC;have b:=h o vC;simp at a b;exact absurd (a.trans b.symm) (zsg lt')
 ·obtain⟨a,b,c,d,e,f⟩:=zdn n
  have a:=h _ a;have b:=h _ b;simp only[Zp] at a b;exact absurd (a.trans b.symm) d
 ·exact absurd (g p vC) vC
 ·have a:=g p vC;have b:=g q vC;simp at a b;exact absurd (a.trans b.symm) (zsg lt)
 ·have a:=g p vC;have b:=g q vC;simp only[Zg,Zu,or_false] at a b;rcases a with a|a<;>rcases b with b|b
  ·exact absurd (a.trans b.symm) (zsg lt)
  ·rw[a,b]
  ·rw[a,b] at lt;exact(ltR_as lt lt').elim
  ·exact absurd (a.trans b.symm) (zsg lt)
 ·obtain⟨a,b,c,d,e,f⟩:=zdn n
  have a:=h _ a;have b:=h _ b;have c:=h _ c;simp only[Zg,Zu,or_false] at a b c;rcases a with a|a<;>rcases b with b|b<;>rcases c with c|c
  all_goals first|exact absurd (a.trans b.symm) d|exact absurd (b.trans c.symm) e|exact absurd (a.trans c.symm) f
 ·exact absurd (g _ (zdn s).1) vC
 ·obtain⟨a,b,c,d,e,f⟩:=zdn s
  have a:=g _ a;have b:=g _ b;simp only[Zp] at a b;exact absurd (a.trans b.symm) d
 ·obtain⟨a,b,c,d,e,f⟩:=zdn s
  have a:=g _ a;have b:=g _ b;have c:=g _ c;simp only[Zg,Zu,or_false] at a b c;rcases a with a|a<;>rcases b with b|b<;>rcases c with c|c
  all_goals first|exact absurd (a.trans b.symm) d|exact absurd (b.trans c.symm) e|exact absurd (a.trans c.symm) f
 ·exact yhx s n g h
def Tel.eq{R R':V->Prop}{L e:List V}(T:Tel R L)(d:Tel R' e)(h:∀u,R u↔R' u):L=e:=yjc T.told d.told (T.sub d h) (d.sub T λu=>(h u).symm)
def Rgn(l r:List V)(u:V):Prop:=∀q∈r,InS l (sp 1 u q)
def rg_of{D:Nat->V}{c l:Nat->Rat}{n:Nat}{t:Rat}(O:Ok D c l n t):Rg D (λi=>mi D c l n t (i%n)) (ee c l t) n:=by
 have f:=O.three;have o:∀{i},i<n->i%n=i:=λh=>Zj h
 have p:∀{i},i<n->(i+1)%n=nx n i:=λh=>(zsd h).symm
 have lt:∀i,i%n<n:=λi=>Wp _ vB
 refine⟨f,O.srt,λi g=>?_,?_,λi k g d=>O.keeps _ _ (lt i) d,λk d=>?_,λi k g d e=>?_⟩
 ·show ∃m,0<=m/\mi D c l n t ((i+1)%n)=pl (mi D c l n t (i%n)) _;rw[p g,o g];exact O.step g
 ·show mi D c l n t (n%n)=mi D c l n t (0%n);rw[Jh,U5]
 ·show xr (D k) (mi D c l n t (k%n))=_;rw[o d];exact O.onr d
 ·show mi D c l n t (i%n)=mi D c l n t (k%n)\/mi D c l n t (i%n)=mi D c l n t ((k+1)%n);rw[p d,o d];exact O.edge d (lt i) e
def zkb{l r:List V}(T:Bd2 l r):Tel (Rgn l r) (puL l r):=by
 cases h:(puE l r).1 with
 |true=>
  have e:puL l r=[]:=by unfold puL;rw[if_pos h]
  rw[e];exact⟨λp m=>(by cases m),λz=>absurd rfl z,.inl rfl,λu n=>absurd n (ykw T h u)⟩
 |false=>
  have g:=zpo T;unfold PuS at g;rw[if_neg (by rw[h];decide)] at g;have R:=rg_of g.ok;have o:=yki R;have e:puL l r=ddL ((List.range (puE l r).2.1).map (puM l r (puE l r).2.1 (puE l r).2.2.1)):=by unfold puL;rw[if_neg (by rw[h];decide)]
  have v:upto (λi=>mi (λi=>wy (hS l ((puE l r).2.2.1 i))) (λi=>((hS l ((puE l r).2.2.1 i)).2.2:Rat)) (λi=>xS l r ((puE l r).2.2.1 i)) (puE l r).2.1 1 (i%(puE l r).2.1)) (puE l r).2.1=(List.range (puE l r).2.1).map (puM l r (puE l r).2.1 (puE l r).2.2.1):=by
   unfold upto;refine Wb λi f=>?_;rw[Zj (Yw.mp f)];rfl
  rw[v,<-e] at o;have s:∀p,p∈puL l r ↔ ∃i,i<(puE l r).2.1/\puM l r (puE l r).2.1 (puE l r).2.2.1 i=p:=λp=>by
   rw[e,dd_mem,Zv];constructor
   ·rintro⟨i,f,e⟩;exact⟨i,Yw.mp f,e⟩
   ·rintro⟨i,f,e⟩;exact⟨i,Yw.mpr f,e⟩
  refine⟨λp m=>?_,λ_ d w=>?_,o,λu _=>pu_ne T h⟩
  ·obtain⟨i,f,A⟩:=(s p).mp m
   rw[<-A];refine⟨ykx T h f,wy (hS l ((puE l r).2.2.1 (pv (puE l r).2.1 i))),wy (hS l ((puE l r).2.2.1 i)),?_,λu n=>?_⟩
   ·have:0<xr (wy (hS l ((puE l r).2.2.1 (pv (puE l r).2.1 i)))) (wy (hS l ((puE l r).2.2.1 i))):=g.ok.bendp f
    grind
   ·have t:∀j,j<(puE l r).2.1->((hS l ((puE l r).2.2.1 j)).2.2:Rat)-1*xS l r ((puE l r).2.2.1 j)<=xr (wy (hS l ((puE l r).2.2.1 j))) u:=λj B=>by
     obtain⟨_,q,C,e⟩:=zdi T.pr (hS l ((puE l r).2.2.1 j))
     have:=n q C _ (g.lt j B)
     rw[zow] at this;have D:xS l r ((puE l r).2.2.1 j)=xr (wy (hS l ((puE l r).2.2.1 j))) q:=e;rw[D];grind
    have o1:xr (wy (hS l ((puE l r).2.2.1 (pv (puE l r).2.1 i)))) (puM l r (puE l r).2.1 (puE l r).2.2.1 i)=((hS l ((puE l r).2.2.1 (pv (puE l r).2.1 i))).2.2:Rat)-1*xS l r ((puE l r).2.2.1 (pv (puE l r).2.1 i)):=g.ok.onl f;have o2:xr (wy (hS l ((puE l r).2.2.1 i))) (puM l r (puE l r).2.1 (puE l r).2.2.1 i)=((hS l ((puE l r).2.2.1 i)).2.2:Rat)-1*xS l r ((puE l r).2.2.1 i):=g.ok.onr f;rw[o1,o2];exact⟨t _ (zda f),t _ f⟩
  ·obtain⟨i,f,k⟩:=pu_low T h w
   exact⟨_,(s _).mpr ⟨i,f,rfl⟩,k⟩
def zfd{l:List V}(f:IsShp l){y:V}:InS l y ↔ ∀d,∃q∈l,xr d q<=xr d y:=⟨λh d=>zsm f h d,λh j g=>by
 obtain⟨q,m,e⟩:=h (wy (hS l j))
 exact Jf (zfg f m j g) e⟩
def yje{l:List V}(f:IsShp l):Tel (InS l) l:=by
 have m:=f.three;have n:0<l.length:=by omega
 refine⟨λp r=>⟨zfg f r,?_⟩,λ_ d _=>?_,.inr (.inr (.inr f)),λu _ z=>by rw[z] at n;cases n⟩
 ·obtain⟨i,g,e⟩:=yha r
  have o:rnd l (pv l.length i+1)=p:=by
   rw[<-e];unfold rnd;rw[<-zsd (zda g),zxy g,Zj g]
  obtain⟨s,A,t,B⟩:=zdt f (pv l.length i)
  obtain⟨v,C,D,E⟩:=zdt f i
  have tp:=turnp f (pv l.length i);have F:rnd l (pv l.length i+2)=rnd l (i+1):=by
   unfold rnd;congr 1
   unfold pv;split
   ·next z=>rw[z,show l.length-1+2=0+1+l.length by omega,Yt]
   ·rw[show i-1+2=i+1 by omega]
  rw[o,F] at tp;refine⟨wy (hS l (pv l.length i)),wy (hS l i),?_,λu h=>⟨?_,?_⟩⟩
  ·rw[t,D];have:xr (sm s (ed (rnd l) (pv l.length i))) (sm v (ed (rnd l) i))=s*v*xr (mn p (rnd l (pv l.length i))) (mn (rnd l (i+1)) p):=by
    unfold ed;rw[o,e];unfold sm xr mn;grind
   rw[this];have:=Zq (Zq A C) tp
   grind
  ·have a:=h _ (zda g);have b:xr (wy (hS l (pv l.length i))) p=xr (wy (hS l (pv l.length i))) (rnd l (pv l.length i)):=by
    rw[t];unfold ed;rw[o];unfold sm xr mn;grind
   rw[b,<-B];exact a
  ·have a:=h _ g;rw[<-e,<-E];exact a
 ·obtain⟨q,G,lo⟩:=Mg.lo_ex n d
  refine⟨q,G,λu h=>?_⟩
  obtain⟨w,H,I⟩:=zsm f h d
  have:=lo w H
  have e:xr d (mn w q)=xr d w-xr d q:=by unfold xr mn;grind
  rw[e] at this;grind
open Mg Sf Fi
def zvi(d a b:V):xr d (mn a b)=xr d a-xr d b:=by unfold xr mn;grind
def zgc(d a b:V):xr d (pl a b)=xr d a+xr d b:=by unfold xr pl;grind
def ykh{l r:List V}(f:IsShp l)(g:IsShp r)(u:V):Rgn (sumL l r) r u↔InS l u:=by
 have s:=sumN f g;have A:0<l.length:=by have:=f.three;omega
 have t:0<r.length:=by have:=g.three;omega
 constructor
 ·intro h;refine(zfd f).mpr λd=>?_;obtain⟨q,m,lo⟩:=Mg.lo_ex t d
  obtain⟨w,n,z⟩:=(zfd s).mp (h q m) d
  obtain⟨p,B,C,o,e⟩:=zwi A t n
  have a:=lo C o;rw[zvi] at a;rw[e,zgc,zow] at z;exact⟨p,B,by grind⟩
 ·intro h q m;refine(zfd s).mpr λd=>?_;obtain⟨p,v,lp,lv,D⟩:=zpf f g d
  obtain⟨w,n,z⟩:=(zfd f).mp h d
  have a:=lp.2 w n;have b:=lv.2 q m;rw[zvi] at a b;refine⟨_,D.1,?_⟩
  rw[zgc,zow];grind
def yhf{l r:List V}(d:IsShp l)(e:IsShp r)(T:Bd2 (sumL l r) r):puL (sumL l r) r=l:=(zkb T).eq (yje d) (ykh d e)
def yde{l:List V}(e:IsShp l)(u:V):Rgn l l u↔u=(0,0):=by
 have g:0<l.length:=by have:=e.three;omega
 constructor
 ·intro h;have k:∀d,0<=xr d u:=λd=>by
   obtain⟨q,f,lo⟩:=Mg.lo_ex g d
   obtain⟨w,m,n⟩:=(zfd e).mp (h q f) d
   have a:=lo w m;rw[zvi] at a;rw[zow] at n;grind
  have a:=k (1,0);have b:=k (-1,0);have c:=k (0,1);have d:=k (0,-1);unfold xr at a b c d;exact Yh (by grind) (by grind)
 ·rintro rfl q f
  have:sp 1 (0,0) q=q:=by unfold sp;exact Yh (by dsimp only;grind) (by dsimp only;grind)
  rw[this];exact zfg e f
def yjf(p:V):Tel (λu=>u=p) [p]:=by
 refine⟨λq f=>⟨Zp.mp f,(1,0),(0,1),by unfold xr;grind,λu e=>?_⟩,λ_ d _=>⟨p,Zp.mpr rfl,λu e=>?_⟩,.inr (.inl ⟨p,rfl⟩),λ_ _ z=>by cases z⟩
 ·rw[e,Zp.mp f];exact⟨Wm,Wm⟩
 ·rw[e];exact Wm
def yku{l:List V}(d:IsShp l)(T:Bd2 l l):puL l l=[(0,0)]:=(zkb T).eq (yjf _) (yde d)
theorem Told.map{L:List V}(h:Told L){f:V->V}(d:∀a b,ltR a b->ltR (f a) (f b))(e:∀a b c,0<oR a b c->0<oR (f a) (f b) (f c)):Told (L.map f):=by
 rcases h with rfl|⟨p,rfl⟩|⟨p,q,rfl,lt⟩|s
 ·exact .inl rfl
 ·exact .inr (.inl ⟨_,rfl⟩)
 ·exact .inr (.inr (.inl ⟨_,_,rfl,d _ _ lt⟩))
 ·exact .inr (.inr (.inr (s.map d e)))
theorem Tel.map{R R':V->Prop}{L:List V}(T:Tel R L){f:V->V}(r:∀a b,ltR a b->ltR (f a) (f b))(s:∀a b c,0<oR a b c->0<oR (f a) (f b) (f c))(m:∀d a b,xr d a<=xr d b->xr d (f a)<=xr d (f b))(h:∀u,R' u ↔ ∃w,R w/\f w=u):Tel R' (L.map f):=by
 refine⟨λp n=>?_,λne d t=>?_,T.told.map r s,λu l z=>?_⟩
 ·obtain⟨q,v,e⟩:=Zv.mp n
  obtain⟨a,A,B,ne,lo⟩:=T.mem q v
  refine⟨(h p).mpr ⟨q,a,e⟩,A,B,ne,λu l=>?_⟩
  obtain⟨w,g,o⟩:=(h u).mp l
  rw[<-e,<-o];exact⟨m _ _ _ (lo w g).1,m _ _ _ (lo w g).2⟩
 ·obtain⟨p,n,lo⟩:=T.low (λz=>ne (by rw[z];rfl)) d t
  refine⟨_,Yx n,λu l=>?_⟩
  obtain⟨w,g,o⟩:=(h u).mp l
  rw[<-o];exact m _ _ _ (lo w g)
 ·obtain⟨w,g,_⟩:=(h u).mp l
  exact T.ne w g (Gq.mp z)
def zza{l:List V}(m:IsShp l)(p y:V):InS (l.map (pl p)) (pl p y)↔InS l y:=by
 rw[zfd (Mg.IsShp.pushed m p),zfd m];constructor
 ·intro h d;obtain⟨q,f,e⟩:=h d
  obtain⟨n,g,o⟩:=Zv.mp f
  rw[<-o,zgc,zgc] at e;exact⟨n,g,by grind⟩
 ·intro h d;obtain⟨q,f,e⟩:=h d
  exact⟨_,Yx f,by rw[zgc,zgc];grind⟩
def zyz{l:List V}(n:IsShp l){x:Rat}(f:0<x)(y:V):InS (l.map (sc x)) (sc x y)↔InS l y:=by
 rw[zfd (Mg.IsShp.sized n f),zfd n];constructor
 ·intro h d;obtain⟨q,g,e⟩:=h d
  obtain⟨o,m,p⟩:=Zv.mp g
  rw[<-p,ztk,ztk] at e;exact⟨o,m,Rat.le_of_mul_le_mul_left e f⟩
 ·intro h d;obtain⟨q,g,e⟩:=h d
  exact⟨_,Yx g,by rw[ztk,ztk];exact Vh e (Zy f)⟩
def ykv{l r:List V}{p:V}(g:IsShp l)(T:Bd2 l r)(m:Bd2 (l.map (pl p)) r):puL (l.map (pl p)) r=(puL l r).map (pl p):=by
 refine(zkb m).eq ((zkb T).map (R':=Rgn (l.map (pl p)) r) (λa b h=>?_) (λa b c h=>?_) (λd a b h=>?_) λu=>?_) λ_=>Iff.rfl
 ·unfold ltR pl at *;dsimp only;grind
 ·have:oR (pl p a) (pl p b) (pl p c)=oR a b c:=by unfold oR pl;grind
  rw[this];exact h
 ·rw[zgc,zgc];grind
 ·have key:∀w,Rgn (l.map (pl p)) r (pl p w)↔Rgn l r w:=λw=>by
   have e:∀q,sp 1 (pl p w) q=pl p (sp 1 w q):=λq=>by unfold sp pl;exact Yh (by dsimp only;grind) (by dsimp only;grind)
   constructor
   ·intro h q f;have:=h q f
    rw[e] at this;exact(zza g p _).mp this
   ·intro h q f;rw[e];exact(zza g p _).mpr (h q f)
  constructor
  ·intro h;have e:pl p (pl (ng p) u)=u:=by unfold pl ng;exact Yh (by dsimp only;grind) (by dsimp only;grind)
   exact⟨pl (ng p) u,(key _).mp (by rw[e];exact h),e⟩
  ·rintro⟨w,n,rfl⟩;exact(key w).mpr n
def ykt{l r:List V}{x:Rat}(n:IsShp l)(f:0<x)(T:Bd2 l r)(p:Bd2 (l.map (sc x)) (r.map (sc x))):puL (l.map (sc x)) (r.map (sc x))=(puL l r).map (sc x):=by
 refine(zkb p).eq ((zkb T).map (R':=Rgn (l.map (sc x)) (r.map (sc x))) (λa b h=>ltR_sz f h) (λa b c h=>?_) (λd a b h=>?_) λu=>?_) λ_=>Iff.rfl
 ·have:oR (sc x a) (sc x b) (sc x c)=x*x*oR a b c:=by unfold oR sc;grind
  rw[this];exact Zq (Zq f f) h
 ·rw[ztk,ztk];exact Vh h (Zy f)
 ·have key:∀w,Rgn (l.map (sc x)) (r.map (sc x)) (sc x w)↔Rgn l r w:=λw=>by
   have e:∀q,sp 1 (sc x w) (sc x q)=sc x (sp 1 w q):=λq=>by unfold sp sc;exact Yh (by dsimp only;grind) (by dsimp only;grind)
   constructor
   ·intro h q g;have:=h _ (Yx g)
    rw[e] at this;exact(zyz n f _).mp this
   ·intro h q g;obtain⟨s,m,t⟩:=Zv.mp g
    rw[<-t,e];exact(zyz n f _).mpr (h s m)
  constructor
  ·intro h;have o:x≠0:=by grind
   have e:sc x (u.1*x⁻¹,u.2*x⁻¹)=u:=by
    unfold sc;exact Yh (by dsimp only;rw[K4,Kr _ o,Rat.mul_one]) (by dsimp only;rw[K4,Kr _ o,Rat.mul_one])
   exact⟨_,(key _).mp (by rw[e];exact h),e⟩
  ·rintro⟨w,v,rfl⟩;exact(key w).mpr v
open Sf
open Mg Fi PySem
section
variable{Γ:Nat->∅}
def ycn{s e:V}{d:Int}(J:d≠0)(E:d.natAbs<2^9)(K:s≠e)(M:Ov d 73 s)(N:Ov d 73 e):Hb (zcl s e):=by
 obtain⟨g,h,u,v,w,A⟩:=M.ex
 obtain⟨l,n,B,C,F,G⟩:=N.ex
 have L:=zlm (c:=(s.2-e.2)*s.1+(e.1-s.1)*s.2) (zev K);obtain⟨k,O,o,p,q⟩:=L.scale
 have o:((zcl s e).1:Rat)=k*(s.2-e.2):=o;have p:((zcl s e).2.1:Rat)=k*(e.1-s.1):=p;have q:((zcl s e).2.2:Rat)=k*((s.2-e.2)*s.1+(e.1-s.1)*s.2):=q;have P:(d:Rat)≠0:=λz=>J (W3.mp z)
 have Q:=Qd (d:Rat) P;have R:=Qd k (by grind);have S:=Jt.mpr O;have T:0<(d:Rat)*(d:Rat):=by
  rcases(show(d:Rat)<0\/0<(d:Rat) by grind) with z|z
  ·have:=Zq (show 0 < -(d:Rat) by grind) (show 0 < -(d:Rat) by grind)
   grind
  ·exact Zq z z
 rw[divI] at u v B C;rw[v,C] at o;rw[u,B] at p;rw[u,v,B,C] at q;obtain⟨m,D,H,I,t3⟩:=ydm (s:=zcl s e) (t:=(d*(h-n),d*(l-g),(h-n)*g+(l-g)*h)) (k:=(d:Rat)*(d:Rat)*k⁻¹) L.co (Zq T S) (by
   show((d*(h-n):Int):Rat)=_;rw[o,Z4,W8];generalize k⁻¹=r at *;generalize (d:Rat)⁻¹=f at *;grind) (by
   show((d*(l-g):Int):Rat)=_;rw[p,Z4,W8];generalize k⁻¹=r at *;generalize (d:Rat)⁻¹=f at *;grind) (by
   show(((h-n)*g+(l-g)*h:Int):Rat)=_;rw[q];simp only[Jb,Z4,W8];generalize k⁻¹=r at *;generalize (d:Rat)⁻¹=f at *;have:(d:Rat)*(d:Rat)*r*(k*(((h:Rat)*f-(n:Rat)*f)*((g:Rat)*f)+((l:Rat)*f-(g:Rat)*f)*((h:Rat)*f)))=(k*r)*(((d:Rat)*f)*((d:Rat)*f))*(((h:Rat)-n)*g+((l:Rat)-g)*h):=by grind
   rw[this,R,Q];grind)
 simp only at H I t3
 refine⟨Yk (zyh D) ?_,Yk (zyh D) ?_,Yk (zyh D) ?_⟩
 ·rw[<-H];exact zbw E (zru A G) vA
 ·rw[<-I];exact zbw E (zru F w) vA
 ·rw[<-t3];exact Zf (zxg (k:=147) (zbw (zru A G) w vA) (zbw (zru F w) A vA)) (Bx vA)
structure K6(l:List V):Prop where
 shp:IsShp l
 few:l.length<=60
 ov:∃d:Int,d≠0/\d.natAbs<2^9/\∀q∈l,Ov d 73 q
def K6.sy{l:List V}(h:K6 l):SyL 73 9 l:=λq g=>by
 obtain⟨d,e,f,m⟩:=h.ov
 obtain⟨x,y,n,o,p,r⟩:=(m q g).ex
 exact⟨by rw[n];exact zia e p f,by rw[o];exact zia e r f⟩
def K6.zl{l:List V}(h:K6 l):SzL 165 l:=h.sy.sz vA vA
def K6.hb{l:List V}(h:K6 l)(i:Nat):Hb (hS l i):=by
 obtain⟨d,g,m,f⟩:=h.ov
 have e:=h.shp.three;exact ycn g m (zgd (nodup h.shp) vB i) (f _ (B8 vB _)) (f _ (B8 vB _))
def K6.two{l r:List V}(a:K6 l)(b:K6 r):Bd2 l r:=
 ⟨a.shp,b.shp,a.zl,a.hb,λq d=>⟨(b.sy q d).1.mono vA vA,(b.sy q d).2.mono vA vA⟩,a.few,b.few⟩
def Ov.up{d:Int}{B C:Nat}{q:V}(h:Ov d B q)(e:B<=C):Ov d C q:=by
 obtain⟨x,y,f,g,l,m⟩:=h.ex
 exact⟨⟨x,y,f,g,Zf l (Bx e),Zf m (Bx e)⟩⟩
def Sh5.k6{l:List V}(h:Sh5 l):K6 l:=by
 obtain⟨s,d,e,f⟩:=h.ov
 exact⟨h.shp,by have:=h.few;omega,s,d,Zf e (Bx vA),λq g=>(f q g).up vA⟩
def Sh5.sum6{l r:List V}(h:Sh5 l)(k:Sh5 r):K6 (sumL l r):=by
 obtain⟨s,d,f,n⟩:=h.ov
 obtain⟨t,g,m,o⟩:=k.ov
 have A:=h.shp.three;have B:=k.shp.three;refine⟨sumN h.shp k.shp,Wc (yjj l r) (by have:=h.few;have:=k.few;omega),s*t,Yc d g,zbw f m vA,λq p=>?_⟩
 obtain⟨u,w,v,z,e⟩:=zwi vB vB p
 rw[e];exact((n u w).pl (o v z) d g f m (k:=65) vA vA).up vA
def Sh5.push6{l:List V}(h:Sh5 l){p:V}(d:Sy 7 3 p.1)(f:Sy 7 3 p.2):K6 (l.map (pl p)):=by
 obtain⟨s,g,m,r⟩:=h.ov
 have n:=zoh p.1;have o:=zoh p.2;have b:=zbw (show((p.1.den:Nat):Int).natAbs<2^3 from d.b) (show((p.2.den:Nat):Int).natAbs<2^3 from f.b) (k:=6) vA;refine⟨Mg.IsShp.pushed h.shp p,by rw[Zc];have:=h.few;omega,(p.1.den:Int)*(p.2.den:Int)*s,Yc (Yc n o) g,zbw b m vA,λq t=>?_⟩
 obtain⟨w,u,e⟩:=Zv.mp t
 rw[<-e];exact((Ov.pt d f (k:=10) vA).pl (r w u) (Yc n o) g b m (k:=68) vA vA).up vA
def Sh5.size6{l:List V}(h:Sh5 l){f:Rat}(d:Sy 4 4 f)(g:0<f):K6 (l.map (sc f)):=by
 obtain⟨s,m,n,o⟩:=h.ov
 refine⟨Mg.IsShp.sized h.shp g,by rw[Zc];have:=h.few;omega,s*(f.den:Int),Yc m (zoh f),zbw n (show((f.den:Nat):Int).natAbs<2^4 from d.b) vA,λq p=>?_⟩
 obtain⟨w,r,e⟩:=Zv.mp p
 rw[<-e];exact((o w r).sc d (k:=66) vA).up vA
def mt_sz{h d:H3}{x e:Rat}(b:Hb h)(f:Hb d)(z:Sy 1292 1202 x)(o:Sy 1292 1202 e)(p:crI h d≠0):Sz 3000 (Fi.mt (wy h) (wy d) ((h.2.2:Rat)-1*x) ((d.2.2:Rat)-1*e)).1/\Sz 3000 (Fi.mt (wy h) (wy d) ((h.2.2:Rat)-1*x) ((d.2.2:Rat)-1*e)).2:=by
 have em:Fi.mt (wy h) (wy d) ((h.2.2:Rat)-1*x) ((d.2.2:Rat)-1*e)=(((d.2.1:Rat)*((h.2.2:Rat)-1*x)-(h.2.1:Rat)*((d.2.2:Rat)-1*e))/(crI h d:Rat),((h.1:Rat)*((d.2.2:Rat)-1*e)-(d.1:Rat)*((h.2.2:Rat)-1*x))/(crI h d:Rat)):=by
  unfold Fi.mt;rw[zdy,Kn,Kn];unfold wy;exact Yh (by dsimp only;grind) (by dsimp only;grind)
 rw[em];have g:Sy 1353 1203 ((h.2.2:Rat)-1*x):=by rw[Ja];exact(syI b.c).sub z (k:=1352) vA vA
 have l:Sy 1353 1203 ((d.2.2:Rat)-1*e):=by rw[Ja];exact(syI f.c).sub o (k:=1352) vA vA
 have m:Sz 181 ((crI h d:Int):Rat):=zeb (zcg b f) vA;have n:((crI h d:Int):Rat)≠0:=λy=>p (W3.mp y)
 have q:Sz 2700 ((d.2.1:Rat)*((h.2.2:Rat)-1*x)-(h.2.1:Rat)*((d.2.2:Rat)-1*e)):=(((syI f.b).mul g).sub ((syI b.b).mul l) (k:=2647) vA vA).sz vA vA;have r:Sz 2700 ((h.1:Rat)*((d.2.2:Rat)-1*e)-(d.1:Rat)*((h.2.2:Rat)-1*x)):=(((syI b.a).mul l).sub ((syI f.a).mul g) (k:=2647) vA vA).sz vA vA;exact⟨(q.div m n).mono vA,(r.div m n).mono vA⟩
def pu_sz{l r:List V}(T:Bd2 l r):SzL 3000 (puL l r)/\(puL l r).length<=1000:=by
 cases h:(puE l r).1 with
 |true=>
  have e:puL l r=[]:=by unfold puL;rw[if_pos h]
  rw[e];exact⟨λq m=>(by cases m),Yj _⟩
 |false=>
  have f:=zpo T;unfold PuS at f;rw[if_neg (by rw[h];decide)] at f;have e:puL l r=ddL ((List.range (puE l r).2.1).map (puM l r (puE l r).2.1 (puE l r).2.2.1)):=by unfold puL;rw[if_neg (by rw[h];decide)]
  rw[e];refine⟨λq m=>?_,?_⟩
  ·obtain⟨i,g,o⟩:=Zv.mp (dd_mem.mp m)
   have g:=Yw.mp g;rw[<-o];have p:=f.ok.bendp g;exact mt_sz (T.hb _) (T.hb _) (T.sy _) (T.sy _) λz=>by
    have:xr (wy (hS l ((puE l r).2.2.1 (pv (puE l r).2.1 i)))) (wy (hS l ((puE l r).2.2.1 i)))=0:=by rw[zdy,z];rfl
    rw[this] at p;grind
  ·have s:∀i,i<(puE l r).2.1->i<=(puE l r).2.2.1 i:=λi=>by
    induction i with
    |zero=>intro _;exact Yj _
    |succ i t=>
     intro g;have a:=t vB;have b:=f.mono i (i+1) vB g;omega
   have n:=f.ok.three;have a:=s ((puE l r).2.1-1) vB;have b:=f.lt ((puE l r).2.1-1) vB;have c:=T.fl;have d:∀L:List V,(ddL L).length<=L.length:=λL=>by
    unfold ddL;rw[Zc];exact Wc (List.length_filter_le _ _) (by rw[Qb];exact Zl _)
   refine Wc (d _) ?_;rw[Zc,Z7];omega
end
open Sf
open Mg Fi PySem
section
variable{Γ:Nat->∅}
abbrev cpP:E:=(.comp (.tup #v[.call 108 #v[.var 1,.ix (.var 3) (.int 0)],.call 108 #v[.var 2,.ix (.var 3) (.int 1)]]) (.tup [1,2]) (.seqV 7) 3 [5] .non)
abbrev cpS:E:=(.comp (.tup #v[.call 74 #v[.var 1,.var 3],.call 74 #v[.var 2,.var 3]]) (.tup [1,2]) (.seqV 7) 3 [6] .non)
def ynv(m:Γ 108=zir){o r s t u v:D}{n:Nat}{l:List V}{p:V}(w:l.length<=1000)(d:SzL 3000 l)(f:Sz 100 p.1/\Sz 100 p.2):
  ev Γ cpP [some o,some r,some s,some t,some u,some (stD p),some v,some (.lst (l.map stD)),none,none]=some (.new ((l.map (pl p)).map stD)):=by
 rw[Ye];refine zce (g:=stD) ?_ (by rw[Qk];omega) rfl λq h=>?_
 ·generalize stD p=P;clear d f;walk_at "evh"
 ·have a:zir [fr q.1,fr p.1]=some (.val (fr (q.1+p.1))):=zal (zaa (d q h).1 f.1 vA vA);have b:zir [fr q.2,fr p.2]=some (.val (fr (q.2+p.2))):=zal (zaa (d q h).2 f.2 vA vA);have e:(stD ∘ pl p) q=.tup [fr (q.1+p.1),fr (q.2+p.2)]:=by
   show stD (p.1+q.1,p.2+q.2)=_;rw[U4 p.1,U4 p.2];rfl
  rw[e];have z:=ziv (q.1+p.1);have B:=ziv (q.2+p.2);unfold stD;generalize fr (q.1+p.1)=A at *;generalize fr (q.2+p.2)=C at *;generalize fr q.1=E at *;generalize fr q.2=F at *;generalize fr p.1=G at *;generalize fr p.2=H at *;clear d f h e w;generalize List.map _ l=I;generalize zir=J at *;walk_at "evh"
def ynu(m:Γ 74=zdg){o p r s t u v:D}{n:Nat}{l:List V}{f:Rat}(w:l.length<=1000)(d:SzL 3000 l)(e:Sz 100 f):
  ev Γ cpS [some o,some p,some r,some s,some t,some u,some (fr f),some (.lst (l.map stD)),some v,none]=some (.new ((l.map (sc f)).map stD)):=by
 rw[Ye];refine zce (g:=stD) ?_ (by rw[Qk];omega) rfl λq h=>?_
 ·generalize fr f=P;clear d e;walk_at "evh"
 ·have a:zdg [fr q.1,fr f]=some (.val (fr (q.1*f))):=zal (zaa (d q h).1 e vA vA);have b:zdg [fr q.2,fr f]=some (.val (fr (q.2*f))):=zal (zaa (d q h).2 e vA vA);show _=some (some (D.tup [fr (q.1*f),fr (q.2*f)]));have z:=ziv (q.1*f);have B:=ziv (q.2*f);unfold stD;generalize fr (q.1*f)=A at *;generalize fr (q.2*f)=C at *;generalize fr q.1=E at *;generalize fr q.2=F at *;generalize fr f=G at *;clear d e h w;generalize List.map _ l=H;generalize zdg=I at *;walk_at "evh"
def ydz{l r:List V}(h:l=r):cmpD .ne (.lst (l.map stD)) (.lst (r.map stD))=some false:=by
 have:=yic l r
 rw[decide_eq_true h] at this;have d:eqO (.lst (l.map stD)) (.lst (r.map stD))=some true:=this;show(eqO _ _).map not=_;rw[d];rfl
def ymm{n o q d g r p:∅}(C:Γ 102=n)(T:Γ 47=o)(V:Γ 82=q)(G:Γ 101=d)(H:Γ 103=g)(X:Γ 66=r)(Y:Γ 68=p){u s t F:D}{h I L O U J K M v w N P z Q R S:List D}{e f l m:Int}
 (q1:n [u,.int 20]=some (.new h))(lH:lfL h=true)(q2:o [.lst h]=some (.new L))(lL:lfL L=true)(c8:cutD h (some 8) none=I)(q3:o [.lst I]=some (.new O))(lO:lfL O=true)(q4:q [.lst L,.lst O]=some (.new U))(lU:lfL U=true)
 (p1:d [.lst U,.lst O]=some (.new J))(n1:cmpD .ne (.lst J) (.lst L)=some false)(p2:d [.lst U,.lst L]=some (.new K))(n2:cmpD .ne (.lst K) (.lst O)=some false)(p3:d [.lst L,.lst L]=some (.new M))(n3:cmpD .ne (.lst M) (.lst [.tup [.tup [.int 0,.int 1],.tup [.int 0,.int 1]]])=some false)
 (Z:L2.atI h 16=some (.int e))(a0:L2.atI h 17=some (.int f))(a1:L2.atI h 18=some (.int l))(a2:L2.atI h 19=some (.int m))
 (r1:g [.int (e%199-99),.int (1+f%5)]=some (.val s))(l1:lf s=true)(r2:g [.int (f%199-99),.int (1+e%5)]=some (.val t))(l2:lf t=true)(r3:g [.int (1+l%9),.int (1+m%9)]=some (.val F))(l3:lf F=true)
 (p4:d [.lst L,.lst O]=some (.new v))(lD:lfL v=true)(k8:ev Γ cpP [some u,some (.lst h),some (.lst L),some (.lst O),some (.lst U),some (.tup [s,t]),some F,some (.lst v),none,none]=some (.new w))(lC:lfL w=true)
 (p5:r [.lst L,.tup [s,t]]=some (.new N))(p6:d [.lst N,.lst O]=some (.new P))(n4:cmpD .ne (.lst P) (.lst w)=some false)
 (k9:ev Γ cpS [some u,some (.lst h),some (.lst L),some (.lst O),some (.lst U),some (.tup [s,t]),some F,some (.lst v),some (.lst w),none]=some (.new z))(a3:lfL z=true)
 (s1:p [.lst L,F]=some (.new Q))(s2:p [.lst O,F]=some (.new R))(p7:d [.lst Q,.lst R]=some (.new S))(n5:cmpD .eq (.lst S) (.lst z)=some true):
  run Γ zbs 10 [u]=some (.val (.bl true)):=by
 have m1:e.fmod 199=e%199:=zaw vA;have m2:f.fmod 199=f%199:=zaw vA;have m3:e.fmod 5=e%5:=zaw vA;have m4:f.fmod 5=f%5:=zaw vA;have m5:l.fmod 9=l%9:=zaw vA;have m6:m.fmod 9=m%9:=zaw vA;unfold zbs;unfold cpP at k8;unfold cpS at k9;generalize A:E.comp _ _ _ _ [5] _=a4 at *;generalize B:E.comp _ _ _ _ [6] _=a5 at *;clear A B;walk_at "evh"
end
open Sf
open Mg Fi PySem
section
variable{Γ:Nat->∅}
def law32(B:Γ 102=zfa)(M:Γ 47=zft)(N:Γ 82=zfs)(C:Γ 101=zfu)(E:Γ 103=zfb)(F:Γ 108=zir)(O:Γ 74=zdg)(P:Γ 66=ziq)(Q:Γ 68=zio)(R:List Int)(hn:R.length<=63):run Γ zbs 10 [.lst (R.map .int)]=some (.val (.bl true)):=by
 obtain⟨o,hl,hb,Z⟩:=zpw R hn 20 vA vA
 rw[show((20:Nat):Int)=20 from rfl] at Z;obtain⟨l,d,e1⟩:=zke (hs:=o) vB
 obtain⟨r,t,e2⟩:=zke (hs:=o.drop 8) (by rw[Ys];omega)
 have c8:cutD (o.map D.int) (some 8) none=(o.drop 8).map D.int:=cut_is (k:=8) vB;obtain⟨e,S⟩:∃g,L2.atI (o.map D.int) 16=some (.int g):=⟨_,zbx (hs:=o) (j:=16) vB⟩
 obtain⟨m,U⟩:∃g,L2.atI (o.map D.int) 17=some (.int g):=⟨_,zbx (hs:=o) (j:=17) vB⟩
 obtain⟨u,W⟩:∃g,L2.atI (o.map D.int) 18=some (.int g):=⟨_,zbx (hs:=o) (j:=18) vB⟩
 obtain⟨v,X⟩:∃g,L2.atI (o.map D.int) 19=some (.int g):=⟨_,zbx (hs:=o) (j:=19) vB⟩
 have w:∀{a b:Int},0<b->b.natAbs<2^4->zfb [.int a,.int b]=some (.val (fr (Rat.divInt a b))):=λh1 h2=>zis h1 (Zf h2 (Bx vA))
 have r1:=w (a:=e%199-99) (b:=1+m%5) vB vB;have r2:=w (a:=m%199-99) (b:=1+e%5) vB vB;have r3:=w (a:=1+u%9) (b:=1+v%9) vB vB;have z1:Sy 7 3 (Rat.divInt (e%199-99) (1+m%5)):=zia vB vB vB;have z2:Sy 7 3 (Rat.divInt (m%199-99) (1+e%5)):=zia vB vB vB;have Y:Sy 4 4 (Rat.divInt (1+u%9) (1+v%9)):=zia vB vB vB;have G:0<Rat.divInt (1+u%9) (1+v%9):=by
  rw[Jp,Kn];exact Zq (cast_pos.mpr vB) (Jt.mpr (cast_pos.mpr vB))
 generalize a1:Rat.divInt (e%199-99) (1+m%5)=J at *;generalize a2:Rat.divInt (m%199-99) (1+e%5)=K at *;generalize Rat.divInt (1+u%9) (1+v%9)=f at *;have a3:=d.few;have a0:=t.few;have s:=d.k6;have z:=t.k6;have L:=d.sum6 t;have kp:=d.push6 (p:=(J,K)) z1 z2;have kf:=d.size6 Y G;have kg:=t.size6 Y G;have H:∀{l:List V},K6 l->SzL 2000 l:=λh q hq=>⟨(h.zl q hq).1.mono vA,(h.zl q hq).2.mono vA⟩
 have A:Sz 100 f:=Y.sz vA vA;have I:Sz 100 J/\Sz 100 K:=⟨z1.sz vA vA,z2.sz vA vA⟩;have T:=s.two z;obtain⟨zD,nD⟩:=pu_sz T
 have su:=su_int d.shp t.shp s.zl z.zl vB vB;have pd:=zul (l:=l) (p:=(J,K)) vB s.zl I;rw[psh_pl] at pd;have s1:zio [.lst (l.map stD),fr f]=some (.new ((l.map (sc f)).map stD)):=zmw vB (H s) (A.mono vA) (zyd G);have s2:zio [.lst (r.map stD),fr f]=some (.new ((r.map (sc f)).map stD)):=zmw vB (H z) (A.mono vA) (zyd G);have e3:puL (sumL l r) l=r:=by
  rw[zrm d.shp t.shp];exact yhf t.shp d.shp (by rw[zrm t.shp d.shp];exact L.two s)
 have z0:stD (0,0)=.tup [.tup [.int 0,.int 1],.tup [.int 0,.int 1]]:=rfl;have n3:=ydz (yku d.shp (s.two s));rw[List.map_singleton,z0] at n3;have n5:=yic (puL (l.map (sc f)) (r.map (sc f))) ((puL l r).map (sc f));rw[decide_eq_true (ykt d.shp G T (kf.two kg))] at n5;exact ymm (Γ:=Γ) B M N C E P Q Z (zqc _) e1 (zcu _) c8 e2 (zcu _) su (zcu _) (zdo (L.two z)) (ydz (yhf d.shp t.shp (L.two z))) (zdo (L.two s)) (ydz e3) (zdo (s.two s)) n3 S U W X r1 (ziv _) r2 (ziv _) r3 (ziv _) (zdo T) (zcu _) (ynv F (n:=0) (p:=(J,K)) nD zD I) (zcu _) pd (zdo (kp.two z)) (ydz (ykv d.shp T (kp.two z))) (ynu O (n:=0) nD zD A) (zcu _) s1 s2 (zdo (kf.two kg)) n5
end
end DL
namespace LW
open DL
def Γ:Nat->List D->Option W
 |0=>zan
 |1=>zgh
 |9=>zde
 |10=>zav
 |11=>zae
 |12=>zan
 |20=>zlk
 |21=>zbb
 |40=>zed
 |41=>zew
 |42=>zex
 |43=>zqb
 |46=>zey
 |47=>zft
 |50=>zee
 |59=>zez
 |66=>ziq
 |67=>zdh
 |68=>zio
 |74=>zdg
 |81=>zbm
 |82=>zfs
 |83=>znr
 |92=>zco
 |93=>zbi
 |95=>zbr
 |96=>znq
 |98=>zcf
 |99=>zit
 |100=>zdf
 |101=>zfu
 |102=>zfa
 |103=>zfb
 |105=>zgt
 |108=>zir
 |_=>λ_=>none
def yep:∀d:List Int,d.length ≤ 63->run Γ zbs 10 [.lst (d.map D.int)]=some (.val (.bl true)):=by
 intro d e;apply DL.law32<;>first|rfl|exact e
end LW
namespace LW
open PySem L2 DL
def top(i:Nat):Stmt:=PySem.Challenge.pw_snugfit_k32_whole_sums_taken_apart.main.body.getD i (.Pass ⟨0,0,0,0⟩)
def bnd1{x:Str}{f:Stmt}{n:Str}(h:∀(kV d l:Value) (m:Option Addr) (e ct:Value) (g:Value),bindArgs (PySem.W.fnOf x x (zbj f) (Bq f) (Bn f) .none kV d l m e ct) ⟨[g],[]⟩=pure ([n].zip [g])):Bnd x f [n]:=λkV d l m e ct p o=>by
 cases p with
 |nil=>cases o
 |cons g q=>
  cases q with
  |nil=>exact h kV d l m e ct g
  |cons _ _=>cases o
def bnd2{x:Str}{f:Stmt}{p q:Str}(h:∀(kV d m:Value) (n:Option Addr) (e ct:Value) (g l:Value),bindArgs (PySem.W.fnOf x x (zbj f) (Bq f) (Bn f) .none kV d m n e ct) ⟨[g,l],[]⟩=pure ([p,q].zip [g,l])):Bnd x f [p,q]:=λkV d m n e ct r o=>by
 cases r with
 |nil=>cases o
 |cons g s=>
  cases s with
  |nil=>cases o
  |cons l t=>
   cases t with
   |nil=>exact h kV d m n e ct g l
   |cons _ _=>cases o
def bnd3{x:Str}{f:Stmt}{q r s:Str}(h:∀(kV d o:Value) (p:Option Addr) (e ct:Value) (g l m:Value),bindArgs (PySem.W.fnOf x x (zbj f) (Bq f) (Bn f) .none kV d o p e ct) ⟨[g,l,m],[]⟩=pure ([q,r,s].zip [g,l,m])):Bnd x f [q,r,s]:=λkV d o p e ct t n=>by
 cases t with
 |nil=>cases n
 |cons g u=>
  cases u with
  |nil=>cases n
  |cons l v=>
   cases v with
   |nil=>cases n
   |cons m w=>
    cases w with
    |nil=>exact h kV d o p e ct g l m
    |cons _ _=>cases n
def zjq:FnScope ["_law_script","_law_many","_law_k","_law_found","_law_cell","_law_at"] ["_law_script","_law_many"] (Bn (top 41)):=vD
def zjv:Bnd "_law_numbers" (top 41) ["_law_script","_law_many"]:=bnd2 λ_ _ _ _ _ _ _ _=>rfl
def zih:FnScope ["_law_head","_law_lows","_law_k","_law_highs","_law_top"] ["_law_head"] (Bn (top 44)):=vD
def zjh:Bnd "_law_bows" (top 44) ["_law_head"]:=bnd1 λ_ _ _ _ _ _ _=>rfl
def zif:FnScope ["_law_head","_law_u","_law_v","_law_both","_law_way","_law_far","_law_back"] ["_law_head"] (Bn (top 45)):=vD
def zjf:Bnd "_law_ring" (top 45) ["_law_head"]:=bnd1 λ_ _ _ _ _ _ _=>rfl
def zjr:FnScope ["_law_one","_law_other"] ["_law_one","_law_other"] (Bn (top 42)):=vD
def zjw:Bnd "_law_divisor" (top 42) ["_law_one","_law_other"]:=bnd2 λ_ _ _ _ _ _ _ _=>rfl
def zig:FnScope ["_law_top","_law_bottom","_law_most"] ["_law_top","_law_bottom"] (Bn (top 43)):=vD
def zjg:Bnd "_law_fraction" (top 43) ["_law_top","_law_bottom"]:=bnd2 λ_ _ _ _ _ _ _ _=>rfl
def zgs:FnScope ["_law_head","_law_ring_here","_law_by","_law_off","_law_share","_law_at","_law_found","_law_x","_law_y","_law_right"] ["_law_head"] (Bn (top 46)):=vD
def zgv:Bnd "_law_shape" (top 46) ["_law_head"]:=bnd1 λ_ _ _ _ _ _ _=>rfl
def ycs:FnScope ["shape"] ["shape"] (Bn (top 14)):=vD
def ygh:Bnd "steps" (top 14) ["shape"]:=bnd1 λ_ _ _ _ _ _ _=>rfl
def zui:FnScope ["one","other","great","small","rest"] ["one","other"] (Bn (top 5)):=vD
def zvc:Bnd "divisor" (top 5) ["one","other"]:=bnd2 λ_ _ _ _ _ _ _ _=>rfl
def ykb:FnScope ["one","other","shared","top","rest"] ["one","other"] (Bn (top 7)):=vD
def yor:Bnd "plus" (top 7) ["one","other"]:=bnd2 λ_ _ _ _ _ _ _ _=>rfl
def ycw:FnScope ["one","other"] ["one","other"] (Bn (top 8)):=vD
def ygl:Bnd "minus" (top 8) ["one","other"]:=bnd2 λ_ _ _ _ _ _ _ _=>rfl
def ycv:FnScope ["top","bottom","shared"] ["top","bottom"] (Bn (top 6)):=vD
def ygk:Bnd "ratio" (top 6) ["top","bottom"]:=bnd2 λ_ _ _ _ _ _ _ _=>rfl
def ycr:FnScope ["one","other"] ["one","other"] (Bn (top 9)):=vD
def ygg:Bnd "times" (top 9) ["one","other"]:=bnd2 λ_ _ _ _ _ _ _ _=>rfl
def zie:FnScope ["parts","common","part","tops","shared","top"] ["parts"] (Bn (top 17)):=vD
def zje:Bnd "lowest_whole" (top 17) ["parts"]:=bnd1 λ_ _ _ _ _ _ _=>rfl
def zid:FnScope ["start","end","a","b","c"] ["start","end"] (Bn (top 15)):=vD
def zjd:Bnd "side_between" (top 15) ["start","end"]:=bnd2 λ_ _ _ _ _ _ _ _=>rfl
def zpj:FnScope ["shape"] ["shape"] (Bn (top 13)):=vD
def zqr:Bnd "sides_of" (top 13) ["shape"]:=bnd1 λ_ _ _ _ _ _ _=>rfl
def yda:FnScope ["one","other"] ["one","other"] (Bn (top 36)):=vD
def ygp:Bnd "added" (top 36) ["one","other"]:=bnd2 λ_ _ _ _ _ _ _ _=>rfl
def ycy:FnScope ["side","other"] ["side","other"] (Bn (top 16)):=vD
def ygn:Bnd "cross" (top 16) ["side","other"]:=bnd2 λ_ _ _ _ _ _ _ _=>rfl
def zna:FnScope ["sides","others"] ["sides","others"] (Bn (top 39)):=vD
def zoq:Bnd "next_bend" (top 39) ["sides","others"]:=bnd2 λ_ _ _ _ _ _ _ _=>rfl
def zwu:FnScope ["one","other","sides","others","corners","i","j","bend"] ["one","other"] (Bn (top 38)):=vD
def yaz:Bnd "summed" (top 38) ["one","other"]:=bnd2 λ_ _ _ _ _ _ _ _=>rfl
def zkz:FnScope ["trio","before","middle","after"] ["trio"] (Bn (top 24)):=vD
def zmh:Bnd "weights_of" (top 24) ["trio"]:=bnd1 λ_ _ _ _ _ _ _=>rfl
def zjp:FnScope ["trio","common","bound","top","bottom","weight","middle"] ["trio"] (Bn (top 25)):=vD
def zju:Bnd "set_closing" (top 25) ["trio"]:=bnd1 λ_ _ _ _ _ _ _=>rfl
def ycx:FnScope ["a","b","spot"] ["a","b","spot"] (Bn (top 18)):=vD
def ygm:Bnd "level" (top 18) ["a","b","spot"]:=bnd3 λ_ _ _ _ _ _ _ _ _=>rfl
def ycz:FnScope ["one","other"] ["one","other"] (Bn (top 11)):=vD
def ygo:Bnd "below" (top 11) ["one","other"]:=bnd2 λ_ _ _ _ _ _ _ _=>rfl
def ycu:FnScope ["shape","a","b","best","corner","found"] ["shape","a","b"] (Bn (top 19)):=vD
def ygj:Bnd "reach" (top 19) ["shape","a","b"]:=bnd3 λ_ _ _ _ _ _ _ _ _=>rfl
def zue:FnScope ["bounds","k"] ["bounds","k"] (Bn (top 23)):=vD
def zuy:Bnd "trio_at" (top 23) ["bounds","k"]:=bnd2 λ_ _ _ _ _ _ _ _=>rfl
def znb:FnScope ["one","other","bounds","place","side","least","k"] ["one","other"] (Bn (top 22)):=vD
def zor:Bnd "bounds_of" (top 22) ["one","other"]:=bnd2 λ_ _ _ _ _ _ _ _=>rfl
def yke:FnScope ["bounds","k"] ["bounds","k"] (Bn (top 28)):=vD
def you:Bnd "drop" (top 28) ["bounds","k"]:=bnd2 λ_ _ _ _ _ _ _ _=>rfl
def zpn:FnScope ["bounds","first","k","closing"] ["bounds"] (Bn (top 26)):=vD
def zqv:Bnd "earliest" (top 26) ["bounds"]:=bnd1 λ_ _ _ _ _ _ _=>rfl
def zpm:FnScope ["bounds","k"] ["bounds","k"] (Bn (top 27)):=vD
def zqu:Bnd "ends_all" (top 27) ["bounds","k"]:=bnd2 λ_ _ _ _ _ _ _ _=>rfl
def zuh:FnScope ["bound","factor"] ["bound","factor"] (Bn (top 30)):=vD
def zvb:Bnd "edge_by" (top 30) ["bound","factor"]:=bnd2 λ_ _ _ _ _ _ _ _=>rfl
def ykc:FnScope ["one","other"] ["one","other"] (Bn (top 10)):=vD
def yos:Bnd "over" (top 10) ["one","other"]:=bnd2 λ_ _ _ _ _ _ _ _=>rfl
def zuf:FnScope ["one","other","factor","first","second","bend","x","y"] ["one","other","factor"] (Bn (top 29)):=vD
def zuz:Bnd "meeting" (top 29) ["one","other","factor"]:=bnd3 λ_ _ _ _ _ _ _ _ _=>rfl
def zpk:FnScope ["bounds","factor"] ["bounds","factor"] (Bn (top 31)):=vD
def zqs:Bnd "meetings" (top 31) ["bounds","factor"]:=bnd2 λ_ _ _ _ _ _ _ _=>rfl
def zwv:FnScope ["one","other","bounds","k","spots"] ["one","other"] (Bn (top 33)):=vD
def yba:Bnd "pushes" (top 33) ["one","other"]:=bnd2 λ_ _ _ _ _ _ _ _=>rfl
def zpl:FnScope ["_law_one","_law_other"] ["_law_one","_law_other"] (Bn (top 47)):=vD
def zqt:Bnd "_law_plus" (top 47) ["_law_one","_law_other"]:=bnd2 λ_ _ _ _ _ _ _ _=>rfl
def zww:FnScope ["shape","push"] ["shape","push"] (Bn (top 35)):=vD
def ybb:Bnd "pushed" (top 35) ["shape","push"]:=bnd2 λ_ _ _ _ _ _ _ _=>rfl
def zgr:FnScope ["_law_one","_law_other"] ["_law_one","_law_other"] (Bn (top 48)):=vD
def zgu:Bnd "_law_times" (top 48) ["_law_one","_law_other"]:=bnd2 λ_ _ _ _ _ _ _ _=>rfl
def yct:FnScope ["shape","factor"] ["shape","factor"] (Bn (top 37)):=vD
def ygi:Bnd "sized" (top 37) ["shape","factor"]:=bnd2 λ_ _ _ _ _ _ _ _=>rfl
def zug:FnScope ["_law_script","_law_head","_law_one","_law_other","_law_whole","_law_push","_law_factor","_law_due","_law_moved","_law_great"] ["_law_script"] (Bn (top 50)):=vD
def zva:Bnd "law" (top 50) ["_law_script"]:=bnd1 λ_ _ _ _ _ _ _=>rfl
def zjm:trSs 40 ⟨["_law_script","_law_many","_law_k","_law_found","_law_cell","_law_at"],Bn (top 41),[],[],false⟩ (Bq (top 41))=some zbz:=by kernel_rfl
def zhv:trSs 40 ⟨["_law_head","_law_lows","_law_k","_law_highs","_law_top"],Bn (top 44),[],[],false⟩ (Bq (top 44))=some zbe:=by kernel_rfl
def zht:trSs 40 ⟨["_law_head","_law_u","_law_v","_law_both","_law_way","_law_far","_law_back"],Bn (top 45),[("_law_bows",105,1)],[],false⟩ (Bq (top 45))=some zbd:=by kernel_rfl
def zjn:trSs 40 ⟨["_law_one","_law_other"],Bn (top 42),[],[],false⟩ (Bq (top 42))=some zcz:=by kernel_rfl
def zhu:trSs 40 ⟨["_law_top","_law_bottom","_law_most"],Bn (top 43),[("_law_divisor",12,2)],[],false⟩ (Bq (top 43))=some zcj:=by kernel_rfl
def zgp:trSs 40 ⟨["_law_head","_law_ring_here","_law_by","_law_off","_law_share","_law_at","_law_found","_law_x","_law_y","_law_right"],Bn (top 46),[("_law_ring",46,1),("_law_fraction",103,2)],[],false⟩ (Bq (top 46))=some zaz:=by kernel_rfl
def ybt:trSs 40 ⟨["shape"],Bn (top 14),[],[],false⟩ (Bq (top 14))=some zmi:=by kernel_rfl
def ztv:trSs 40 ⟨["one","other","great","small","rest"],Bn (top 5),[],[],false⟩ (Bq (top 5))=some zjl:=by kernel_rfl
def yiv:trSs 40 ⟨["one","other","shared","top","rest"],Bn (top 7),[("divisor",0,2)],[],false⟩ (Bq (top 7))=some ybc:=by kernel_rfl
def ybx:trSs 40 ⟨["one","other"],Bn (top 8),[("plus",9,2)],[],false⟩ (Bq (top 8))=some zqy:=by kernel_rfl
def ybw:trSs 40 ⟨["top","bottom","shared"],Bn (top 6),[("divisor",0,2)],[],false⟩ (Bq (top 6))=some zqx:=by kernel_rfl
def ybs:trSs 40 ⟨["one","other"],Bn (top 9),[("ratio",1,2)],[],false⟩ (Bq (top 9))=some zqw:=by kernel_rfl
def zhs:trSs 40 ⟨["parts","common","part","tops","shared","top"],Bn (top 17),[("divisor",0,2)],[],false⟩ (Bq (top 17))=some zbc:=by kernel_rfl
def zhr:trSs 40 ⟨["start","end","a","b","c"],Bn (top 15),[("minus",10,2),("plus",9,2),("times",11,2),("lowest_whole",43,1)],[],false⟩ (Bq (top 15))=some zbp:=by kernel_rfl
def zoy:trSs 40 ⟨["shape"],Bn (top 13),[("steps",41,1),("side_between",42,2)],[],false⟩ (Bq (top 13))=some zcq:=by kernel_rfl
def ycc:trSs 40 ⟨["one","other"],Bn (top 36),[("plus",9,2)],[],false⟩ (Bq (top 36))=some zml:=by kernel_rfl
def yca:trSs 40 ⟨["side","other"],Bn (top 16),[],[],false⟩ (Bq (top 16))=some zmk:=by kernel_rfl
def zmr:trSs 40 ⟨["sides","others"],Bn (top 39),[("cross",81,2)],[],false⟩ (Bq (top 39))=some zaq:=by kernel_rfl
def zvz:trSs 40 ⟨["one","other","sides","others","corners","i","j","bend"],Bn (top 38),[("sides_of",40,1),("added",67,2),("next_bend",83,2)],[],false⟩ (Bq (top 38))=some zhl:=by kernel_rfl
def zkr:trSs 40 ⟨["trio","before","middle","after"],Bn (top 24),[("cross",81,2)],[],true⟩ (Bq (top 24))=some zci:=by kernel_rfl
def zjo:SetSh (top 25) ⟨["trio","common","bound","top","bottom","weight","middle"],Bn (top 25),[("weights_of",93,1)],[],true⟩ 40 o_set_closing.1 o_set_closing.2.1 o_set_closing.2.2:=⟨(Bq (top 25)).take 6,_,_,_,_,_,rfl,by kernel_rfl,by kernel_rfl,by kernel_rfl,rfl⟩
def yby:trSs 40 ⟨["a","b","spot"],Bn (top 18),[("plus",9,2),("times",11,2)],[],false⟩ (Bq (top 18))=some zmj:=by kernel_rfl
def ycb:trSs 40 ⟨["one","other"],Bn (top 11),[],[],false⟩ (Bq (top 11))=some zgb:=by kernel_rfl
def ybv:trSs 40 ⟨["shape","a","b","best","corner","found"],Bn (top 19),[("level",50,3),("below",21,2)],[],false⟩ (Bq (top 19))=some zjk:=by kernel_rfl
def ztr:trSs 40 ⟨["bounds","k"],Bn (top 23),[],[],false⟩ (Bq (top 23))=some zfl:=by kernel_rfl
def zmx:BoSh (top 22) ⟨["one","other","bounds","place","side","least","k"],Bn (top 22),[("sides_of",40,1),("minus",10,2),("reach",59,3),("trio_at",92,2)],[],true⟩ 40 o_bounds_of.1 o_bounds_of.2.1 o_bounds_of.2.2.1 o_bounds_of.2.2.2:=⟨_,_,_,_,_,_,_,_,_,_,_,_,_,_,_,_,_,_,_,_,_,_,_,_,_,_,_,_,_,_,_,_,rfl,rfl,by kernel_rfl,by kernel_rfl,rfl,rfl,by kernel_rfl,rfl,by kernel_rfl,rfl,by decide +kernel,by decide +kernel,by decide +kernel⟩
def yjt:yim (top 28) ⟨["bounds","k"],Bn (top 28),[("trio_at",92,2)],[],true⟩ 40 o_drop.1 o_drop.2:=⟨_,_,_,_,_,_,_,_,_,_,_,_,_,rfl,rfl,by kernel_rfl,by kernel_rfl,rfl,rfl,by decide +kernel⟩
def zpc:trSs 40 ⟨["bounds","first","k","closing"],Bn (top 26),[("below",21,2)],[],true⟩ (Bq (top 26))=some zdx:=by kernel_rfl
def zpb:trSs 40 ⟨["bounds","k"],Bn (top 27),[("weights_of",93,1),("trio_at",92,2)],[],false⟩ (Bq (top 27))=some zdw:=by kernel_rfl
def ztu:trSs 40 ⟨["bound","factor"],Bn (top 30),[("minus",10,2),("times",11,2)],[],true⟩ (Bq (top 30))=some zfn:=by kernel_rfl
def yiw:trSs 40 ⟨["one","other"],Bn (top 10),[("ratio",1,2)],[],false⟩ (Bq (top 10))=some ybd:=by kernel_rfl
def zts:trSs 40 ⟨["one","other","factor","first","second","bend","x","y"],Bn (top 29),[("edge_by",99,2),("cross",81,2),("minus",10,2),("times",11,2),("over",20,2)],[],true⟩ (Bq (top 29))=some zdm:=by kernel_rfl
def zoz:trSs 40 ⟨["bounds","factor"],Bn (top 31),[("meeting",98,3)],[],false⟩ (Bq (top 31))=some zca:=by kernel_rfl
def zwr:yij (top 33) ⟨["one","other","bounds","k","spots"],Bn (top 33),[("earliest",95,1),("below",21,2),("ends_all",96,2),("meetings",100,2)],[],true⟩ 40 o_pushes.1 o_pushes.2.1 o_pushes.2.2.1 o_pushes.2.2.2:=⟨_,_,_,_,_,_,_,_,_,_,_,_,_,_,_,_,_,_,_,_,_,_,_,_,rfl,by kernel_rfl,by kernel_rfl,by kernel_rfl,by kernel_rfl,by kernel_rfl,by kernel_rfl,by kernel_rfl,by kernel_rfl,by kernel_rfl,rfl,rfl,by decide +kernel,by decide +kernel⟩
def zpa:trSs 40 ⟨["_law_one","_law_other"],Bn (top 47),[("_law_fraction",103,2)],[],false⟩ (Bq (top 47))=some zga:=by kernel_rfl
def zwa:trSs 40 ⟨["shape","push"],Bn (top 35),[("added",67,2)],[],false⟩ (Bq (top 35))=some zfm:=by kernel_rfl
def zgo:trSs 40 ⟨["_law_one","_law_other"],Bn (top 48),[("_law_fraction",103,2)],[],false⟩ (Bq (top 48))=some zbk:=by kernel_rfl
def ybu:trSs 40 ⟨["shape","factor"],Bn (top 37),[("times",11,2)],[],false⟩ (Bq (top 37))=some zjj:=by kernel_rfl
def ztt:trSs 40 ⟨["_law_script","_law_head","_law_one","_law_other","_law_whole","_law_push","_law_factor","_law_due","_law_moved","_law_great"],Bn (top 50),[("_law_numbers",102,2),("_law_shape",47,1),("summed",82,2),("pushes",101,2),("_law_fraction",103,2),("_law_plus",108,2),("pushed",66,2),("_law_times",74,2),("sized",68,2)],[],false⟩ (Bq (top 50))=some zbs:=by kernel_rfl
section
variable{P:Program}{w:World}{K:vE}{h:Heap}{mg:Str->Option Value}{fa:Addr}
def yjs:yil (zfv (top 21) 0):=⟨_,_,_,_,_,_,_,_,_,_,_,_,_,_,_,_,_,rfl⟩
def ykd:FnScope ["self","place","side","least"] ["self","place","side","least"] (Bn (zfv (top 21) 0)):=vD
theorem yot:∀(kV d g:Value) (h:Option Addr) (e ct:Value) (f:List Value),f.length=4->bindArgs (PySem.W.fnOf "__init__" "Bound.__init__" (zbj (zfv (top 21) 0)) (Bq (zfv (top 21) 0)) (Bn (zfv (top 21) 0)) .none kV d g h e ct) ⟨f,[]⟩=pure ((["self","place","side","least"]:List Str).zip f)
 |_,_,_,_,_,_,[_,_,_,_],_=>rfl
def all_mk(X:K.In h)(G:h.Ns mainGlobals mg)(aX:mg "law" = some (.ref fa))(O:At K "_law_numbers" (top 41))(C:At K "_law_bows" (top 44))(D:At K "_law_ring" (top 45))(Q:At K "_law_divisor" (top 42))(E:At K "_law_fraction" (top 43))(t:At K "_law_shape" (top 46))(av:At K "steps" (top 14))(ag:At K "divisor" (top 5))(aL:At K "plus" (top 7))(aw:At K "minus" (top 8))(ax:At K "ratio" (top 6))(ay:At K "times" (top 9))(F:At K "lowest_whole" (top 17))(H:At K "side_between" (top 15))(a3:At K "sides_of" (top 13))(az:At K "added" (top 36))(aA:At K "cross" (top 16))(Z:At K "next_bend" (top 39))(ao:At K "summed" (top 38))(Y:At K "weights_of" (top 24))(R:At K "set_closing" (top 25))(aB:At K "level" (top 18))(aC:At K "below" (top 11))(aD:At K "reach" (top 19))(ah:At K "trio_at" (top 23))(a0:At K "bounds_of" (top 22))(aM:At K "drop" (top 28))(a4:At K "earliest" (top 26))(a5:At K "ends_all" (top 27))(ai:At K "edge_by" (top 30))(aN:At K "over" (top 10))(aj:At K "meeting" (top 29))(a6:At K "meetings" (top 31))(ap:At K "pushes" (top 33))(a7:At K "_law_plus" (top 47))(aq:At K "pushed" (top 35))(u:At K "_law_times" (top 48))(aE:At K "sized" (top 37))(ak:At K "law" (top 50))(f:AtC K (zfv (top 21) 0))
 (aY:PySem.W.nsIn K mainGlobals "len" = some none)(aZ:PySem.W.nsIn K mainGlobals "abs" = some none)(aK:PySem.W.nsIn K mainGlobals "isinstance" = some none)(b0:PySem.W.nsIn K mainGlobals "int" = some none)(aV:PySem.W.nsIn K mainGlobals "bool" = some none)(aT:PySem.W.nsIn K mainGlobals "tuple" = some none)(aW:PySem.W.nsIn K mainGlobals "list" = some none)(aU:PySem.W.nsIn K mainGlobals "range" = some none)(aO:PySem.W.nsIn K mainGlobals "enumerate" = some none)(b1:PySem.W.nsIn K mainGlobals "min" = some none)(b2:PySem.W.nsIn K mainGlobals "max" = some none)(aS:PySem.W.nsIn K mainGlobals "sorted" = some none)(b3:PySem.W.nsIn K mainGlobals "set" = some none)(aR:PySem.W.nsIn K mainGlobals "reversed" = some none)(b4:PySem.W.nsIn K mainGlobals "zip" = some none)(b5:PySem.W.nsIn K mainGlobals "sum" = some none):
  ∃fd:FuncData,(∀(s:Shared) (v:Value),BindsTo s fd ⟨[v],[]⟩ [("_law_script",v)]) ∧ ∀d:Heap,K.In d->d.Ns mainGlobals mg->FnOk P w K mg d CX0 39 fa fd ["_law_script"] (spD K 1 (run Γ zbs 10)):=by
 have g:∀x∈zcy,mg x=none:=yfw X G (by
  intro x hx;simp only[zcy,Zg,Zu,or_false] at hx;rcases hx with rfl|rfl|rfl|rfl|rfl|rfl|rfl|rfl|rfl|rfl|rfl|rfl|rfl|rfl|rfl|rfl<;>assumption)
 refine law_at ak X G aX zug zva ztt (λd hk hn=>?_);have S:GFn P w K mg d 1 "_law_numbers" 2 (Γ 102):=zaf (Γ:=Γ) (k:=0) O X G zjq zjv zjm rfl ⟨Calls.nil,CallsR.nil,(λh=>nomatch h),g⟩ (by apply DL.ok_law_numbers<;>rfl);have I:GFn P w K mg d 2 "_law_bows" 1 (Γ 105):=zaf (Γ:=Γ) (k:=1) C X G zih zjh zhv rfl ⟨Calls.nil,CallsR.nil,(λh=>nomatch h),g⟩ (by apply DL.ok_law_bows_k32<;>rfl);have J:GFn P w K mg d 3 "_law_ring" 1 (Γ 46):=zaf (Γ:=Γ) (k:=2) D X G zif zjf zht rfl ⟨(Calls.cons I vA Calls.nil),CallsR.nil,(λh=>nomatch h),g⟩ (by apply DL.ok_law_ring_k31<;>rfl);have T:GFn P w K mg d 4 "_law_divisor" 2 (Γ 12):=zaf (Γ:=Γ) (k:=3) Q X G zjr zjw zjn rfl ⟨Calls.nil,CallsR.nil,(λh=>nomatch h),g⟩ (by apply DL.ok_law_divisor<;>rfl);have e:GFn P w K mg d 5 "_law_fraction" 2 (Γ 103):=zaf (Γ:=Γ) (k:=4) E X G zig zjg zhu rfl ⟨(Calls.cons T vA Calls.nil),CallsR.nil,(λh=>nomatch h),g⟩ (by apply DL.ok_law_fraction<;>rfl);have z:GFn P w K mg d 6 "_law_shape" 1 (Γ 47):=zaf (Γ:=Γ) (k:=5) t X G zgs zgv zgp rfl ⟨(Calls.cons J vA (Calls.cons e vA Calls.nil)),CallsR.nil,(λh=>nomatch h),g⟩ (by apply DL.ok_law_shape_k31<;>rfl);have aF:GFn P w K mg d 7 "steps" 1 (Γ 41):=zaf (Γ:=Γ) (k:=6) av X G ycs ygh ybt rfl ⟨Calls.nil,CallsR.nil,(λh=>nomatch h),g⟩ (by apply DL.ok_steps<;>rfl);have p:GFn P w K mg d 8 "divisor" 2 (Γ 0):=zaf (Γ:=Γ) (k:=7) ag X G zui zvc ztv rfl ⟨Calls.nil,CallsR.nil,(λh=>nomatch h),g⟩ (by apply DL.ok_divisor<;>rfl);have N:GFn P w K mg d 9 "plus" 2 (Γ 9):=zaf (Γ:=Γ) (k:=8) aL X G ykb yor yiv rfl ⟨(Calls.cons p vA Calls.nil),CallsR.nil,(λh=>nomatch h),g⟩ (by apply DL.ok_plus<;>rfl);have r:GFn P w K mg d 10 "minus" 2 (Γ 10):=zaf (Γ:=Γ) (k:=9) aw X G ycw ygl ybx rfl ⟨(Calls.cons N vA Calls.nil),CallsR.nil,(λh=>nomatch h),g⟩ (by apply DL.ok_minus<;>rfl);have a8:GFn P w K mg d 11 "ratio" 2 (Γ 1):=zaf (Γ:=Γ) (k:=10) ax X G ycv ygk ybw rfl ⟨(Calls.cons p vA Calls.nil),CallsR.nil,(λh=>nomatch h),g⟩ (by apply DL.ok_ratio<;>rfl);have l:GFn P w K mg d 12 "times" 2 (Γ 11):=zaf (Γ:=Γ) (k:=11) ay X G ycr ygg ybs rfl ⟨(Calls.cons a8 vA Calls.nil),CallsR.nil,(λh=>nomatch h),g⟩ (by apply DL.ok_times<;>rfl);have L:GFn P w K mg d 13 "lowest_whole" 1 (Γ 43):=zaf (Γ:=Γ) (k:=12) F X G zie zje zhs rfl ⟨(Calls.cons p vA Calls.nil),CallsR.nil,(λh=>nomatch h),g⟩ (by apply DL.ok_lowest_whole<;>rfl);have M:GFn P w K mg d 14 "side_between" 2 (Γ 42):=zaf (Γ:=Γ) (k:=13) H X G zid zjd zhr rfl ⟨(Calls.cons r vA (Calls.cons N vA (Calls.cons l vA (Calls.cons L vA Calls.nil)))),CallsR.nil,(λh=>nomatch h),g⟩ (by apply DL.ok_side_between<;>rfl);have B:GFn P w K mg d 15 "sides_of" 1 (Γ 40):=zaf (Γ:=Γ) (k:=14) a3 X G zpj zqr zoy rfl ⟨(Calls.cons aF vA (Calls.cons M vA Calls.nil)),CallsR.nil,(λh=>nomatch h),g⟩ (by apply DL.ok_sides_of<;>rfl);have a9:GFn P w K mg d 16 "added" 2 (Γ 67):=zaf (Γ:=Γ) (k:=15) az X G yda ygp ycc rfl ⟨(Calls.cons N vA Calls.nil),CallsR.nil,(λh=>nomatch h),g⟩ (by apply DL.ok_added<;>rfl);have U:GFn P w K mg d 17 "cross" 2 (Γ 81):=zaf (Γ:=Γ) (k:=16) aA X G ycy ygn yca rfl ⟨Calls.nil,CallsR.nil,(λh=>nomatch h),g⟩ (by apply DL.ok_cross<;>rfl);have a1:GFn P w K mg d 18 "next_bend" 2 (Γ 83):=zaf (Γ:=Γ) (k:=17) Z X G zna zoq zmr rfl ⟨(Calls.cons U vA Calls.nil),CallsR.nil,(λh=>nomatch h),g⟩ (by apply DL.ok_next_bend<;>rfl);have ar:GFn P w K mg d 19 "summed" 2 (Γ 82):=zaf (Γ:=Γ) (k:=18) ao X G zwu yaz zvz rfl ⟨(Calls.cons B vA (Calls.cons a9 vA (Calls.cons a1 vA Calls.nil))),CallsR.nil,(λh=>nomatch h),g⟩ (by apply DL.ok_summed<;>rfl);have o:GFn P w K mg d 20 "weights_of" 1 (Γ 93):=zaf (Γ:=Γ) (k:=19) Y X G zkz zmh zkr rfl ⟨(Calls.cons U vA Calls.nil),CallsR.nil,(λ_=>f.bf),g⟩ (by apply DL.ok_weights_of<;>rfl);have m:GSp P w K mg d 21 "set_closing" (zgq K Psi):=ymp (k:=20) R X G zjp zju zjo ⟨(Calls.cons o vA Calls.nil),CallsR.nil,(λ_=>f.bf),g⟩ (psi_ok rfl);have aG:GFn P w K mg d 22 "level" 3 (Γ 50):=zaf (Γ:=Γ) (k:=21) aB X G ycx ygm yby rfl ⟨(Calls.cons N vA (Calls.cons l vA Calls.nil)),CallsR.nil,(λh=>nomatch h),g⟩ (by apply DL.ok_level<;>rfl);have V:GFn P w K mg d 23 "below" 2 (Γ 21):=zaf (Γ:=Γ) (k:=22) aC X G ycz ygo ycb rfl ⟨Calls.nil,CallsR.nil,(λh=>nomatch h),g⟩ (by apply DL.ok_belowR<;>rfl);have aH:GFn P w K mg d 24 "reach" 3 (Γ 59):=zaf (Γ:=Γ) (k:=23) aD X G ycu ygj ybv rfl ⟨(Calls.cons aG vA (Calls.cons V vA Calls.nil)),CallsR.nil,(λh=>nomatch h),g⟩ (by apply DL.ok_reachR<;>rfl);have q:GFn P w K mg d 25 "trio_at" 2 (Γ 92):=zaf (Γ:=Γ) (k:=24) ah X G zue zuy ztr rfl ⟨Calls.nil,CallsR.nil,(λh=>nomatch h),g⟩ (by apply DL.ok_trio_at<;>rfl);have aI:MkB P w K mg d 1:=mkb_at (k:=0) f X G ykd yot yjs (by decide +kernel);have a2:GSp P w K mg d 26 "bounds_of" (spBo K Xi):=gbo_at (k:=24) a0 X G znb zor (by decide +kernel) zmx (g "range" (by decide +kernel)) (m.mono vA) (aI.mono vA) ⟨(Calls.cons B vA (Calls.cons r vA (Calls.cons aH vA (Calls.cons q vA Calls.nil)))),CallsR.nil,(λ_=>f.bf),g⟩ (xi_ok rfl rfl rfl rfl);have aP:GSp P w K mg d 27 "drop" (zkc K Tht):=yez (k:=26) aM X G yke you (by decide +kernel) yjt (m.mono vA) ⟨(Calls.cons q vA Calls.nil),CallsR.nil,(λ_=>f.bf),g⟩ (tht_ok rfl);have aa:GFn P w K mg d 28 "earliest" 1 (Γ 95):=zaf (Γ:=Γ) (k:=27) a4 X G zpn zqv zpc rfl ⟨(Calls.cons V vA Calls.nil),CallsR.nil,(λ_=>f.bf),g⟩ (by apply DL.ok_earliest<;>rfl);have ab:GFn P w K mg d 29 "ends_all" 2 (Γ 96):=zaf (Γ:=Γ) (k:=28) a5 X G zpm zqu zpb rfl ⟨(Calls.cons o vA (Calls.cons q vA Calls.nil)),CallsR.nil,(λh=>nomatch h),g⟩ (by apply DL.ok_ends_all<;>rfl);have am:GFn P w K mg d 30 "edge_by" 2 (Γ 99):=zaf (Γ:=Γ) (k:=29) ai X G zuh zvb ztu rfl ⟨(Calls.cons r vA (Calls.cons l vA Calls.nil)),CallsR.nil,(λ_=>f.bf),g⟩ (by apply DL.ok_edge_by<;>rfl);have aQ:GFn P w K mg d 31 "over" 2 (Γ 20):=zaf (Γ:=Γ) (k:=30) aN X G ykc yos yiw rfl ⟨(Calls.cons a8 vA Calls.nil),CallsR.nil,(λh=>nomatch h),g⟩ (by apply DL.ok_over<;>rfl);have an:GFn P w K mg d 32 "meeting" 3 (Γ 98):=zaf (Γ:=Γ) (k:=31) aj X G zuf zuz zts rfl ⟨(Calls.cons am vA (Calls.cons U vA (Calls.cons r vA (Calls.cons l vA (Calls.cons aQ vA Calls.nil))))),CallsR.nil,(λ_=>f.bf),g⟩ (by apply DL.ok_meeting<;>rfl);have ae:GFn P w K mg d 33 "meetings" 2 (Γ 100):=zaf (Γ:=Γ) (k:=32) a6 X G zpk zqs zoz rfl ⟨(Calls.cons an vA Calls.nil),CallsR.nil,(λh=>nomatch h),g⟩ (by apply DL.ok_meetings<;>rfl);have as:GFn P w K mg d 34 "pushes" 2 (Γ 101):=yew (k:=33) (n:=1) ap X G zwv rfl yba zwr (a2.mono vA) (aP.mono vA) ⟨(Calls.cons aa vA (Calls.cons V vA (Calls.cons ab vA (Calls.cons ae vA Calls.nil)))),CallsR.nil,(λ_=>f.bf),g⟩ (ydk rfl rfl rfl rfl);have af:GFn P w K mg d 35 "_law_plus" 2 (Γ 108):=zaf (Γ:=Γ) (k:=34) a7 X G zpl zqt zpa rfl ⟨(Calls.cons e vA Calls.nil),CallsR.nil,(λh=>nomatch h),g⟩ (by apply DL.ok_law_plus<;>rfl);have au:GFn P w K mg d 36 "pushed" 2 (Γ 66):=zaf (Γ:=Γ) (k:=35) aq X G zww ybb zwa rfl ⟨(Calls.cons a9 vA Calls.nil),CallsR.nil,(λh=>nomatch h),g⟩ (by apply DL.ok_pushed<;>rfl);have A:GFn P w K mg d 37 "_law_times" 2 (Γ 74):=zaf (Γ:=Γ) (k:=36) u X G zgr zgu zgo rfl ⟨(Calls.cons e vA Calls.nil),CallsR.nil,(λh=>nomatch h),g⟩ (by apply DL.ok_law_times_k31<;>rfl);have aJ:GFn P w K mg d 38 "sized" 2 (Γ 68):=zaf (Γ:=Γ) (k:=37) aE X G yct ygi ybu rfl ⟨(Calls.cons l vA Calls.nil),CallsR.nil,(λh=>nomatch h),g⟩ (by apply DL.ok_sized<;>rfl);exact⟨(Calls.cons S vA (Calls.cons z vA (Calls.cons ar vA (Calls.cons as vA (Calls.cons e vA (Calls.cons af vA (Calls.cons au vA (Calls.cons A vA (Calls.cons aJ vA Calls.nil))))))))),CallsR.nil,(λh=>nomatch h),g⟩
end
def walk{l:PySem.W.OpenLaw}{q:Program}{g:List Str}{v:(Str->Option Value)->Heap->Prop}{p:World->Heap->Prop}{d:DefRec}{K:Params->vE}(A:l.most=some 63)(o:d.params.defaults=[])
 (B:∀(w:World) (h:Heap),p w h->(K w.params).In h)
 (F:∀(w:World) (m:Str->Option Value) (r:Addr) (h:Heap),(K w.params).In h->h.Ns mainGlobals m->m d.name=some (.ref r) →
   ∃t:FuncData,(∀(s:Shared) (u:Value),BindsTo s t ⟨[u],[]⟩ [("_law_script",u)]) ∧ ∀e:Heap,(K w.params).In e->e.Ns mainGlobals m->FnOk l.prog w (K w.params) m e CX0 39 r t ["_law_script"] (spD (K w.params) 1 (run Γ zbs 10))):
  PySem.W.WalkO q g v p l.row.toRowW d [] (λf C=>PySem.call f C):=
 L2.walk_of (n:=63) (k:=39) (x := "_law_script") (CX:=λ_=>CX0) (sp:=λw=>spD (K w.params) 1 (run Γ zbs 10)) A vA o ⟨rfl,by decide,by decide⟩ B F (λ_ H a D E _ hS=>yeq yep H a D E hS) λ_ _ _ _ _ z=>z
end LW
open PySem PySem.W PyProof.Rows
/-! size: the head lays twins of its constants; where these names stand it goes on without -/
namespace PySem.W.Fast
def tw1706885054430034170:=Nat
def tw10585464559970943412:=Nat
def tw13160692297186465673:=Nat
def tw17976815932756636409:=Nat
def tw212804515314609520:=Nat
def tw8524286543329593004:=Nat
def tw12854619143528394515:=Nat
def tw15796931847872331351:=Nat
def tw9975438485241221757:=Nat
def tw16841994089868975047:=Nat
def tw3561011806547411066:=Nat
def tw11748366658935464794:=Nat
def tw3151955560469393647:=Nat
def tw17532657801672915529:=Nat
def tw17761052604468261836:=Nat
def tw15800725466359899918:=Nat
def tw4150342894515143895:=Nat
def tw11144619457507157255:=Nat
def tw17621741881025246835:=Nat
def tw12330239956132240425:=Nat
def tw6679990496087377007:=Nat
def tw18252157892654170361:=Nat
def tw16023283657667680523:=Nat
def tw2684451440566385653:=Nat
def tw10578033264252172207:=Nat
def tw10847792963210104896:=Nat
def tw401474293838113439:=Nat
def tw10040323789442324170:=Nat
def tw5740295377620142979:=Nat
def tw13799026178197123983:=Nat
def tw16766169902749321104:=Nat
def tw13035354003488029936:=Nat
def tw3612388134943903150:=Nat
def tw74546413326108359:=Nat
def tw11415733508170411081:=Nat
def tw12843316101593376992:=Nat
def tw5571476967366216502:=Nat
def tw7545508963655009481:=Nat
def tw2704734616622984207:=Nat
def tw16692274856132301335:=Nat
def tw1182653364296766746:=Nat
def tw15289536906514882095:=Nat
def tw13516080888373129746:=Nat
def tw15382962354187343688:=Nat
def tw10883455055331852031:=Nat
def tw6153209220971474960:=Nat
def tw14132765570217918372:=Nat
def tw17072059028531949686:=Nat
def tw571610251991268917:=Nat
def tw13483593617064840629:=Nat
def tw8071653190984490165:=Nat
def tw12157128848810021383:=Nat
def tw9751076482371586328:=Nat
def tw3774821854167522872:=Nat
def tw2571860309361729160:=Nat
def tw9607392106887173891:=Nat
def tw15227817215767210686:=Nat
def tw9315467358979756780:=Nat
def tw11146785993201718165:=Nat
def tw15163068663242473455:=Nat
def tw1031845927612449967:=Nat
def tw788070109752828330:=Nat
def tw18380097190393899926:=Nat
def tw15369332499188446633:=Nat
def tw3389277457985415082:=Nat
def tw369565096949937705:=Nat
def tw11605770319302570288:=Nat
def tw9126316144995214476:=Nat
def tw10502645013820113815:=Nat
def tw11063684769170808347:=Nat
def tw15452952271037002880:=Nat
def tw14318162230234063668:=Nat
def tw7659328670981911330:=Nat
def tw7437952212558389736:=Nat
def tw18332983563810559379:=Nat
def tw1623682520166778486:=Nat
def tw11406192097067602874:=Nat
def tw16762784938343910671:=Nat
def tw4162104338636414264:=Nat
def tw9208224015486705898:=Nat
def tw16938353927007240592:=Nat
def tw17670572052750362805:=Nat
def tw14913987448498979012:=Nat
def tw11748728412436927309:=Nat
def tw6174808771268280486:=Nat
def tw10996592293911768394:=Nat
def tw4954503423924265984:=Nat
def tw15527815925498186968:=Nat
def tw8008714279649551017:=Nat
def tw2402666355652142753:=Nat
def tw14558803908832307739:=Nat
def tw5625925804168926652:=Nat
def tw7896797313174350823:=Nat
def tw15373953476132228787:=Nat
def tw14072338304780221184:=Nat
def tw132724390330096746:=Nat
def tw7776690072970301067:=Nat
def tw9374536497965837559:=Nat
def tw17429978390838807158:=Nat
def tw17233336693203936822:=Nat
def tw1645999502520848431:=Nat
def tw10332554057388532580:=Nat
def tw3904846006961671188:=Nat
def tw6951069214341358673:=Nat
def tw17517870760755432774:=Nat
def tw5414407070702735665:=Nat
def tw7682840842764028384:=Nat
def tw12548887240722616732:=Nat
def tw13811296021276595778:=Nat
def tw8350448474634028299:=Nat
def tw8210595903368636658:=Nat
def tw13194964315913807416:=Nat
def tw13782885571565500981:=Nat
def tw8978491698444690268:=Nat
def tw15173031077912317677:=Nat
def tw1154464404528423050:=Nat
def tw12293407683546869078:=Nat
def tw657504360352912175:=Nat
def tw12616903561208222600:=Nat
def tw4637251414387846981:=Nat
def tw17515471146686323373:=Nat
def tw198522535204205721:=Nat
def tw17006967697426008648:=Nat
def tw8094630175000851423:=Nat
def tw14739761396508770488:=Nat
def tw16571066556659385333:=Nat
def tw7749076021545386779:=Nat
def tw13814313959680015133:=Nat
def tw15105429320903109912:=Nat
def tw11191222467554660533:=Nat
def tw7772142460461366753:=Nat
def tw16827414092323260208:=Nat
def tw16401866257169403519:=Nat
def tw9424231875418009913:=Nat
def tw3932925192147831657:=Nat
def tw3107867924845730164:=Nat
def tw1669444152504373748:=Nat
def tw15369131502972431919:=Nat
def tw12769351541588218312:=Nat
def tw9953453523896258608:=Nat
def tw10956518804233923576:=Nat
def tw6686030187151255299:=Nat
def tw3469245870574895785:=Nat
def tw10073755726712337956:=Nat
def tw531334873729090062:=Nat
def tw8202131173484546619:=Nat
def tw16676266578768576252:=Nat
def tw4619520777986913448:=Nat
def tw9682085352369564606:=Nat
def tw12648681156776697754:=Nat
end PySem.W.Fast
set_option maxRecDepth 100000 in
set_option maxHeartbeats 0 in
theorem PySem.Challenge.cw_snugfit_k32_whole_sums_taken_apart_holds : PySem.Challenge.rw_snugfit_k32_whole_sums_taken_apart.Holds := by
 w_on;o_law;k_head;(case hw=>w_witness2)
 k_fill
 refine LW.walk (l:=PySem.Challenge.rw_snugfit_k32_whole_sums_taken_apart) rfl rfl (fun w h Y=>PySem.W.kIn_of Y) ?F
 case F=>
  intro w mg fa h KX G hmg;refine' LW.all_mk KX G hmg ?_ ?_ ?_ ?_ ?_ ?_ ?_ ?_ ?_ ?_ ?_ ?_ ?_ ?_ ?_ ?_ ?_ ?_ ?_ ?_ ?_ ?_ ?_ ?_ ?_ ?_ ?_ ?_ ?_ ?_ ?_ ?_ ?_ ?_ ?_ ?_ ?_ ?_ ?_ ?_ ?_ ?_ ?_ ?_ ?_ ?_ ?_ ?_ ?_ ?_ ?_ ?_ ?_ ?_ ?_ ?_
  all_goals first|(refine' DL.at_mk ?a ?l ?c ?k;(case a=>k_is);(case l=>k_is);(case c=>k_is);(case k=>k_is))|(refine' DL.atc_mk ?a ?m2 ?c1 ?c2 ?c3 ?c4 ?n1 ?n2 ?n3 ?n4 ?m1 ?m3 ?m4 ?l ?c ?k;(case a=>k_is);(case m2=>k_is);(case c1=>k_is);(case c2=>k_is);(case c3=>k_is);(case c4=>k_is);(case n1=>k_is);(case n2=>k_is);(case n3=>k_is);(case n4=>k_is);(case m1=>k_is);(case m3=>k_is);(case m4=>k_is);(case l=>k_is);(case c=>k_is);(case k=>k_is))|k_is
#print axioms PySem.Challenge.cw_snugfit_k32_whole_sums_taken_apart_holds
